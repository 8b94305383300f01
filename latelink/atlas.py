"""Atlases: all standings that a mode reaches from the whole list."""

from latelink.errors import TooMany, Unknown
from latelink.links import Links, check_size
from latelink.modes import admitted, mode_named
from latelink.replay import play

MOST_SIZES = {"free": 3, "saving": 3, "guarded": 4, "checked": 6}


class Atlas:
    """The standings of a size that admitted operations reach from the whole list, each known by its dump."""

    def __init__(self, size, *, mode="free"):
        check_size(size)
        mode_named(mode)
        if size > MOST_SIZES[mode]:
            raise TooMany(MOST_SIZES[mode])
        self.size = size
        self._logs = {Links(size).dump(): []}
        self._onward = {}
        level = [Links(size)]
        while level:
            level = self._explore(level, mode)
        self.count = len(self._logs)

    def knows(self, links):
        """True exactly if the standing is in the atlas."""
        return links.dump() in self._logs

    def steps(self, links, other):
        """Returns the least number of admitted operations from the first standing to the second, or None."""
        start = self._known(links)
        goal = self._known(other)
        distances = {start: 0}
        level = [start]
        while level:
            further = []
            for here in level:
                for there in self._onward[here]:
                    if there not in distances:
                        distances[there] = distances[here] + 1
                        further.append(there)
            level = further
        return distances.get(goal)

    def log_to(self, links):
        """Returns the least log from the whole list to the standing."""
        return list(self._logs[self._known(links)])

    def _known(self, links):
        """Returns the dump of the standing, which must be in the atlas."""
        if not self.knows(links):
            raise Unknown(links.dump())
        return links.dump()

    def _explore(self, level, mode):
        """Notes what one more operation reaches from the standings of a level; returns those that are new."""
        further = []
        # A level is in the order of its least logs, and operations go by ascending node: so the first log to a
        # standing is its least one.
        for links in level:
            here = links.dump()
            self._onward[here] = []
            for operation in admitted(links, mode=mode):
                after = play(links, [operation])
                there = after.dump()
                self._onward[here].append(there)
                if there not in self._logs:
                    self._logs[there] = self._logs[here] + [operation]
                    further.append(after)
        return further
