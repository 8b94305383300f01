"""Logs that are applied to standings, and the mirror of a standing."""

from latelink.links import Links, dump_of


def replay(size, log):
    """Returns the standing after the log from the whole list."""
    return play(Links(size), log)


def play(links, log):
    """Returns the standing after the log from the given one, which does not change."""
    after = links.copy()
    for index, operation in enumerate(log):
        after.apply_at(operation, index)
    return after


def standings(size, log):
    """Yields the dumps before the first operation and after each operation."""
    # An error anywhere in the log is due before the first member.
    replay(size, log)
    links = Links(size)
    yield links.dump()
    for operation in log:
        links.apply(operation)
        yield links.dump()


def mirrored(links):
    """Returns the mirror of the standing."""
    end = links.size + 1
    rights = [end - links.left(end - node) for node in range(end)]
    lefts = [end - links.right(end - node) for node in range(1, end + 1)]
    outs = [end - node for node in reversed(links.outs())]
    return Links.read(dump_of(rights, lefts, outs))
