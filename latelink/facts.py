"""Facts: what may be known about a standing."""

from latelink.errors import BadFact, BadNode
from latelink.links import check_size


def check_facts(size, facts):
    """Raises an error unless each member of the list is a fact about standings of the size."""
    check_size(size)
    for index, fact in enumerate(facts):
        if not _is_fact(size, fact):
            raise BadFact(index)


def is_true(links, fact):
    """True exactly if the fact is true of the standing."""
    check_facts(links.size, [fact])
    word, node, *link = fact
    if word == "left":
        return link == [links.left(node)]
    if word == "right":
        return link == [links.right(node)]
    return links.is_out(node) == (word == "out")


def facts_of(links, nodes):
    """Returns what is true of each of the nodes in turn: whether it is in or out, its left link, its right link."""
    facts = []
    for node in nodes:
        if not 1 <= node <= links.size:
            raise BadNode(node)
        facts.append(("out" if links.is_out(node) else "in", node))
        facts.append(("left", node, links.left(node)))
        facts.append(("right", node, links.right(node)))
    return facts


def _is_fact(size, fact):
    word, *numbers = fact
    if word in ("in", "out"):
        return len(numbers) == 1 and 1 <= numbers[0] <= size
    if word not in ("left", "right") or len(numbers) != 2:
        return False
    node, link = numbers
    # The tail has a left link, too, and the head a right link.
    return 0 <= link < node <= size + 1 if word == "left" else 0 <= node < link <= size + 1
