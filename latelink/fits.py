"""The checked standings that fit a list of facts."""

from latelink.errors import BadPlace, NoFit
from latelink.facts import check_facts
from latelink.forest import Forest
from latelink.ranks import locate


class FitCounts:
    """The numbers of trees over each range, and of standings behind each node that is in, that fit the facts."""

    def __init__(self, size, facts):
        check_facts(size, facts)
        self.size = size
        self._wanted = _wanted_by(facts)
        # Trees by the two nodes around their range; standings by the node that they are behind.
        self.trees = {}
        self.rests = {size + 1: 1}
        for low in range(size, -1, -1):
            self.trees[(low, low + 1)] = 1
            for high in range(low + 2, size + 2):
                self.trees[(low, high)] = sum(self.root_blocks(low, high))
            self.rests[low] = sum(self.next_blocks(low))

    def root_blocks(self, low, high):
        """Returns the numbers of trees over the range whose root is at the first, the second, .. place."""
        return [self.trees[(low, root)] * self.trees[(root, high)] if self._can_be_root(root, low, high) else 0
                for root in range(low + 1, high)]

    def next_blocks(self, low):
        """Returns the numbers of standings behind the node that have 0, 1, .. nodes before the next one that is in."""
        return [self.trees[(low, high)] * self.rests[high] if self._can_be_neighbours(low, high) else 0
                for high in range(low + 1, self.size + 2)]

    def _can_be_root(self, node, low, high):
        return (self._allows("out", node, True) and self._allows("left", node, low)
                and self._allows("right", node, high))

    def _can_be_neighbours(self, low, high):
        return (self._allows("out", high, False) and self._allows("right", low, high)
                and self._allows("left", high, low))

    def _allows(self, word, node, value):
        return self._wanted.get((word, node), value) == value


def count_fits(size, facts):
    """Returns the number of fits."""
    return FitCounts(size, facts).rests[0]


def fit_at(size, facts, place):
    """Returns the fit at the place, a forest."""
    counts = FitCounts(size, facts)
    if not 0 <= place < counts.rests[0]:
        raise BadPlace(place)
    return _fit(counts, place)


def each_fit(size, facts):
    """Yields the fits in the order of their ranks."""
    counts = FitCounts(size, facts)
    for place in range(counts.rests[0]):
        yield _fit(counts, place)


def status(size, facts, fact):
    """Returns whether the further fact is true of all fits ("sure"), of some ("open") or of none ("never")."""
    # If the further fact is none, the error has the index behind the others.
    check_facts(size, facts + [fact])
    count = count_fits(size, facts)
    if count == 0:
        raise NoFit(size)
    true_of = count_fits(size, facts + [fact])
    if true_of == 0:
        return "never"
    return "sure" if true_of == count else "open"


def _wanted_by(facts):
    """Returns what the facts say of nodes: whether one is out, its left link, its right link. None stands for facts
    that contradict each other."""
    wanted = {}
    for word, node, *link in facts:
        aspect = ("out", node) if word in ("in", "out") else (word, node)
        value = link[0] if link else word == "out"
        wanted[aspect] = value if wanted.get(aspect, value) == value else None
    return wanted


def _fit(counts, place):
    removal = []
    low = 0
    while low <= counts.size:
        first, place = locate(counts.next_blocks(low), place)
        high = low + first + 1
        tree, place = divmod(place, counts.rests[high])
        removal.extend(_tree_at(counts, low, high, tree))
        low = high
    return Forest.after(counts.size, removal)


def _tree_at(counts, low, high, place):
    """Returns a removal of the nodes between the two that leads to the tree at this place."""
    if high == low + 1:
        return []
    before, place = locate(counts.root_blocks(low, high), place)
    root = low + before + 1
    left, right = divmod(place, counts.trees[(root, high)])
    return _tree_at(counts, low, root, left) + _tree_at(counts, root, high, right) + [root]
