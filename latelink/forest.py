"""Checked standings, as forests of the nodes that are out."""

from math import factorial

from latelink.errors import BadNode, BadText, Illegal, NotChecked, Refused
from latelink.links import check_size
from latelink.modes import CheckedMode
from latelink.returns import after_removal


class Forest:
    """A checked standing; at first the whole list. A forest never changes."""

    def __init__(self, size):
        check_size(size)
        self.size = size
        # The two links of each node that is out. All other links follow from them, since the standing is sound.
        self._spans = {}

    @staticmethod
    def read(text):
        """Returns the forest with this text."""
        size, removal = _read_trees(text)
        return Forest.after(size, removal)

    @staticmethod
    def of(links):
        """Returns the forest of a standing."""
        forest = _forest(links.size, _spans_of(links))
        if forest.links() != links:
            raise NotChecked(links.dump())
        return forest

    @classmethod
    def after(cls, size, removal):
        """Returns the forest after the unlinks of these nodes in this order."""
        forest = cls(size)
        forest._spans = _spans_of(after_removal(size, removal))
        return forest

    def __len__(self):
        return len(self._spans)

    def __contains__(self, node):
        return node in self._spans

    def __eq__(self, other):
        return isinstance(other, Forest) and self.size == other.size and self._spans == other._spans

    def __str__(self):
        return "".join([_letters(node, self._spans) for node in range(1, self.size + 1)])

    def links(self):
        """Returns the standing."""
        # The nodes of a subtree are unlinked before its root; they lie between the links of the root.
        return after_removal(self.size, sorted(self._spans, key=lambda node: len(self._between(node))))

    def tops(self):
        """Returns the nodes that are out and have no node above them, ascending."""
        return [node for node in sorted(self._spans) if self.parent(node) == 0]

    def parent(self, node):
        """Returns the node whose left or right subtree has this node as its root, or 0 for a top."""
        self._check_out(node)
        low, high = self._spans[node]
        # If both links are nodes above, one of the two is below the other one and has it as a link.
        if high in self._spans and self._spans[high][0] == low:
            return high
        return low if low in self._spans else 0

    def chain(self, node):
        """Returns the parent of the node, the parent of its parent, and so on up to a top."""
        above = []
        parent = self.parent(node)
        while parent != 0:
            above.append(parent)
            parent = self.parent(parent)
        return above

    def below(self, node):
        """Returns the nodes of the subtree of the node without the node itself, ascending."""
        self._check_out(node)
        return [other for other in self._between(node) if other != node]

    def unlinked(self, node):
        """Returns the forest after the unlink of the node."""
        self._check_node(node)
        if node in self._spans:
            raise Illegal(-node, 0)
        low = max([other for other in range(node) if other not in self._spans])
        high = min([other for other in range(node + 1, self.size + 2) if other not in self._spans])
        return _forest(self.size, {**self._spans, node: (low, high)})

    def relinked(self, node):
        """Returns the forest after the relink of the node, which must be a top."""
        self._check_node(node)
        if node not in self._spans:
            raise Illegal(node, 0)
        if self.parent(node) != 0:
            raise Refused(node, 0, CheckedMode.NAME)
        return _forest(self.size, {other: span for other, span in self._spans.items() if other != node})

    def ways_back(self):
        """Returns the number of orders in which the checked mode lets all nodes that are out be relinked."""
        ways = factorial(len(self._spans))
        for node in self._spans:
            ways = ways // len(self._between(node))
        return ways

    def _between(self, node):
        """Returns the nodes between the links of a node that is out: those of its subtree."""
        low, high = self._spans[node]
        return list(range(low + 1, high))

    def _check_node(self, node):
        if not 1 <= node <= self.size:
            raise BadNode(node)

    def _check_out(self, node):
        if node not in self._spans:
            raise BadNode(node)


def _forest(size, spans):
    forest = Forest(size)
    forest._spans = spans
    return forest


def _spans_of(links):
    return {node: (links.left(node), links.right(node)) for node in links.outs()}


def _letters(node, spans):
    """Returns what the text of the forest with these spans has for the node: also where trees begin and end."""
    if node not in spans:
        return "."
    begun = [low for low, _ in spans.values() if low == node - 1]
    ended = [high for _, high in spans.values() if high == node + 1]
    return "(" * len(begun) + "*" + ")" * len(ended)


def _read_trees(text):
    """Returns the size of the standing with this text, and a removal that leads to it."""
    size = 0
    removal = []
    # The roots of the trees that have begun and not ended, or 0 for a root that is still to come.
    roots = []
    before = ""
    for place, letter in enumerate(text):
        if not _can_follow(before, letter, roots):
            raise BadText(place)
        if letter in (".", "*"):
            size += 1
        if letter == "(":
            roots.append(0)
        elif letter == "*":
            roots[-1] = size
        elif letter == ")":
            removal.append(roots.pop())
        before = letter
    if roots:
        raise BadText(len(text))
    return size, removal


def _can_follow(before, letter, roots):
    """True exactly if some valid text goes on with the letter, behind a letter within trees with these roots."""
    if letter == "(":
        # Two trees never stand side by side.
        return before != ")"
    if letter == ".":
        return len(roots) == 0
    if letter == "*":
        return len(roots) > 0 and roots[-1] == 0
    return letter == ")" and len(roots) > 0 and roots[-1] != 0
