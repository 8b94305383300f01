"""Operations and logs, without the links that they write."""

from latelink.errors import BadOperation, BadRange, BadText
from latelink.links import Links, check_operation, check_size, is_positive
from latelink.replay import replay


def format_log(log):
    """Returns the text of the log."""
    for index, operation in enumerate(log):
        if operation == 0:
            raise BadOperation(operation, index)
    return " ".join([f"{operation:+d}" for operation in log])


def parse_log(text):
    """Returns the log whose text this is."""
    # A split of the empty text would give one empty word, which is wrong.
    words = [] if text == "" else text.split(" ")
    for place, word in enumerate(words):
        if word[:1] not in ("-", "+") or not is_positive(word[1:]):
            raise BadText(place)
    return [int(word) for word in words]


def first_illegal(size, log):
    """Returns the index of the first operation that is illegal after those before it, or None."""
    struck = strikes(size, log)
    return struck[0] if struck else None


def strikes(size, log):
    """Returns the indexes of the struck operations, ascending."""
    links = Links(size)
    _check_operations(size, log)
    struck = []
    for index, operation in enumerate(log):
        if links.is_legal(operation):
            links.apply(operation)
        else:
            struck.append(index)
    return struck


def squeeze(size, log):
    """Returns the log with each run shortened to its last one or two operations."""
    replay(size, log)
    squeezed = []
    for run in _runs(log):
        squeezed.extend(run[-1:] if len(run) % 2 == 1 else run[-2:])
    return squeezed


def mirror(size, log):
    """Returns the mirror of the log."""
    _check_operations(size, log)
    return [_on_node(operation, size + 1 - abs(operation)) for operation in log]


def blocks(size, log):
    """Returns the maximal ranges of consecutive nodes that act, as pairs, ascending."""
    _check_operations(size, log)
    ranges = []
    for node in sorted({abs(operation) for operation in log}):
        if ranges and ranges[-1][1] == node - 1:
            ranges[-1] = (ranges[-1][0], node)
        else:
            ranges.append((node, node))
    return ranges


def block_part(size, log, low, high):
    """Returns the operations on the nodes low .. high, renumbered from 1 on."""
    _check_operations(size, log)
    if not 1 <= low <= high <= size:
        raise BadRange(low, high)
    return [_on_node(operation, abs(operation) - low + 1) for operation in log if low <= abs(operation) <= high]


def _check_operations(size, log):
    check_size(size)
    for index, operation in enumerate(log):
        check_operation(size, operation, index)


def _on_node(operation, node):
    return node if operation > 0 else -node


def _runs(log):
    runs = []
    for operation in log:
        if runs and abs(runs[-1][0]) == abs(operation):
            runs[-1].append(operation)
        else:
            runs.append([operation])
    return runs
