"""Standings of a list: its links, and which nodes are out."""

from latelink.errors import BadDump, BadNode, BadOperation, BadSize, Illegal

DIGITS = "0123456789"
MOST_DIGITS = 9


class Links:
    """A standing; at first the whole list."""

    MOST = 60

    def __init__(self, size):
        check_size(size)
        self.size = size
        # All three lists are indexed by node. The head has no left link, so the place 0 of _lefts is never read.
        self._rights = list(range(1, size + 2))
        self._lefts = [0] + list(range(size + 1))
        self._out = [False] * (size + 2)

    @staticmethod
    def read(text):
        """Returns the standing with this dump."""
        parts = text.split(" | ")
        # An empty part is always wrong, so it stands for a missing one.
        rights, lefts, outs = (parts + ["", ""])[:3]
        right_links = _read_rights(rights)
        links = Links(len(right_links) - 1)
        links._rights = right_links
        links._lefts = [0] + _read_lefts(lefts, links.size)
        for node in _read_outs(outs, links.size):
            links._out[node] = True
        if len(parts) > 3:
            raise BadDump(3)
        return links

    def __len__(self):
        return len(range(self.size))

    def __contains__(self, node):
        return 1 <= node <= self.size and not self._out[node]

    def __eq__(self, other):
        return (isinstance(other, Links) and self._rights == other._rights and self._lefts == other._lefts
                and self._out == other._out)

    def __str__(self):
        return str(self.dump())

    def left(self, node):
        """Returns the left link of a node or of the tail."""
        if not 1 <= node <= self.size + 1:
            raise BadNode(node)
        return self._lefts[node]

    def right(self, node):
        """Returns the right link of a node or of the head."""
        if not 0 <= node <= self.size:
            raise BadNode(node)
        return self._rights[node]

    def is_out(self, node):
        """True exactly if it is a node that is out; the sentinels are always in."""
        if not 0 <= node <= self.size + 1:
            raise BadNode(node)
        return self._out[node]

    def outs(self):
        """Returns the nodes that are out, ascending."""
        return [node for node in range(1, self.size + 1) if self._out[node]]

    def is_legal(self, operation):
        """True exactly if the operation, which is one for this size, can be applied."""
        return self._out[abs(operation)] == (operation > 0)

    def check(self, operation, index):
        """Raises an error, with this index, unless the operation can be applied."""
        check_operation(self.size, operation, index)
        if not self.is_legal(operation):
            raise Illegal(operation, index)

    def apply(self, operation):
        """Applies an operation that stands alone."""
        self.apply_at(operation, 0)

    def apply_at(self, operation, index):
        """Applies the operation that has this index in its log."""
        self.check(operation, index)
        node = abs(operation)
        low = self._lefts[node]
        high = self._rights[node]
        is_unlink = operation < 0
        self._rights[low] = high if is_unlink else node
        self._lefts[high] = low if is_unlink else node
        self._out[node] = is_unlink

    def walk(self):
        """Yields the nodes that right links lead to from the head."""
        node = self._rights[0]
        while node <= self.size:
            yield node
            node = self._rights[node]

    def walk_back(self):
        """Yields the nodes that left links lead to from the tail."""
        node = self._lefts[self.size + 1]
        while node >= 1:
            yield node
            node = self._lefts[node]

    def is_sound(self):
        """True exactly if each two neighbours that are in are linked to each other."""
        present = [node for node in range(self.size + 2) if not self._out[node]]
        return all([self._rights[low] == high and self._lefts[high] == low
                    for low, high in zip(present, present[1:])])

    def is_whole(self):
        """True exactly if this is the whole list."""
        return self == Links(self.size)

    def copy(self):
        """Returns an equal standing that shares nothing with this one."""
        twin = Links(self.size)
        twin._rights = list(self._rights)
        twin._lefts = list(self._lefts)
        twin._out = list(self._out)
        return twin

    def key(self):
        """Returns a tuple that only equal standings share; it is made faster than the dump."""
        return tuple(self._rights), tuple(self._lefts), tuple(self._out)

    def dump(self):
        """Returns the dump of the standing."""
        return dump_of(self._rights, self._lefts[1:], self.outs())


def check_size(size):
    """Raises BadSize unless a list can have this size."""
    if not 0 <= size <= Links.MOST:
        raise BadSize(size)


def check_operation(size, operation, index):
    """Raises BadOperation, with this index, unless the integer is an operation for the size."""
    if not 1 <= abs(operation) <= size:
        raise BadOperation(operation, index)


def is_positive(word):
    """True exactly if the word is one to nine digits of which the first is not 0."""
    return 1 <= len(word) <= MOST_DIGITS and word[0] != "0" and all([letter in DIGITS for letter in word])


def dump_of(rights, lefts, outs):
    """Returns the dump with these right links, left links and nodes that are out."""
    return " | ".join([_joined(rights), _joined(lefts), _joined(outs) if outs else "none"])


def _joined(numbers):
    return " ".join([str(number) for number in numbers])


def _read_numbers(text, part):
    words = text.split(" ")
    if not all([word == "0" or is_positive(word) for word in words]):
        raise BadDump(part)
    return [int(word) for word in words]


def _read_rights(text):
    rights = _read_numbers(text, 0)
    size = len(rights) - 1
    if size > Links.MOST or not all([node < link <= size + 1 for node, link in enumerate(rights)]):
        raise BadDump(0)
    return rights


def _read_lefts(text, size):
    lefts = _read_numbers(text, 1)
    # The left link at the place v is that of v + 1.
    if len(lefts) != size + 1 or not all([link <= place for place, link in enumerate(lefts)]):
        raise BadDump(1)
    return lefts


def _read_outs(text, size):
    if text == "none":
        return []
    outs = _read_numbers(text, 2)
    bounds = [0] + outs + [size + 1]
    if not all([low < high for low, high in zip(bounds, bounds[1:])]):
        raise BadDump(2)
    return outs
