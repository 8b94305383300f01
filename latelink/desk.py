"""The desk: a log and its standing, led on step by step."""

from latelink.debts import debt_of, is_repairable
from latelink.errors import BadCapacity, BadIndex, Full, NothingToRedo, NothingToUndo, Stale
from latelink.gaps import gap_states
from latelink.links import Links, check_size
from latelink.modes import check_admitted, mode_named
from latelink.ops import parse_log
from latelink.repairs import first_repair
from latelink.replay import play


class Desk:
    """A log that is legal at every moment, and the standing after it."""

    MOST = 2000

    def __init__(self, size, *, mode="free", capacity=200):
        check_size(size)
        mode_named(mode)
        if not 1 <= capacity <= Desk.MOST:
            raise BadCapacity(capacity)
        self.size = size
        self.capacity = capacity
        self._mode = mode
        self._log = []
        # The steps that are done and those that are taken back, each a list of operations.
        self._done = []
        self._undone = []
        # The standing before the first step and after each step that is done. None of them changes any more.
        self._standings = [Links(size)]

    @classmethod
    def replayed(cls, size, text, *, mode="free"):
        """Returns a desk on which the operations of the log with this text have been done, each as a step."""
        desk = cls(size, mode=mode, capacity=cls.MOST)
        log = parse_log(text)
        # A step alone would not tell the index of its operation in the log.
        desk.foresee(log)
        for operation in log:
            desk.do(operation)
        return desk

    @property
    def length(self):
        """The number of operations of the log."""
        return len(self._log)

    @property
    def debt(self):
        """The debt of the standing, or None if a gap is lost."""
        links = self._standings[-1]
        return debt_of(links) if is_repairable(links) else None

    @property
    def mode(self):
        """The name of the mode that judges operations."""
        return self._mode

    @mode.setter
    def mode(self, value):
        mode_named(value)
        self._mode = value

    def change_mode(self, mode):
        """Lets this mode judge the operations from now on."""
        self.mode = mode

    def do(self, operation):
        """Does one operation as a step."""
        self.attempt(operation)

    def attempt(self, *operations):
        """Does all the operations as one step, or none of them. Returns their number."""
        self._add(list(operations), self.foresee(operations))
        return len(operations)

    def retract(self, index):
        """Does, as a step, the opposite of the operation at the index of the log. Returns what was added."""
        if not 0 <= index < len(self._log):
            raise BadIndex(index)
        opposite = -self._log[index]
        # The next operation on the same node, if there is one, can only be the opposite one.
        if opposite in self._log[index + 1:]:
            raise Stale(index)
        self.do(opposite)
        return opposite

    def repair(self):
        """Does the first repair as one step, whatever the mode is. Returns the operations that were added."""
        links = self._standings[-1]
        operations = first_repair(links)
        if len(self._log) + len(operations) > self.capacity:
            raise Full(self.capacity)
        self._add(operations, play(links, operations))
        return list(operations)

    def undo(self):
        """Takes back the last step that is not taken back."""
        if not self._done:
            raise NothingToUndo()
        step = self._done.pop()
        self._undone.append(step)
        self._standings.pop()
        del self._log[-len(step):]

    def redo(self):
        """Does the step again that was taken back last."""
        if not self._undone:
            raise NothingToRedo()
        step = self._undone.pop()
        self._keep(step, play(self._standings[-1], step))

    def log(self):
        """Returns the log."""
        return list(self._log)

    def links(self):
        """Returns the standing."""
        return self._standings[-1].copy()

    def twin(self):
        """Returns an equal desk that shares nothing with this one."""
        twin = Desk(self.size, mode=self._mode, capacity=self.capacity)
        twin._log = list(self._log)
        twin._done = [list(step) for step in self._done]
        twin._undone = [list(step) for step in self._undone]
        twin._standings = [links.copy() for links in self._standings]
        return twin

    def foresee(self, operations):
        """Returns the standing that an attempt of the operations would lead to, or raises its error."""
        links = self.links()
        judge = mode_named(self._mode)
        for index, operation in enumerate(operations):
            check_admitted(links, operation, index, judge)
            if len(self._log) + index >= self.capacity:
                raise Full(self.capacity)
            links.apply(operation)
        return links

    def _add(self, step, links):
        """Adds a new step, which leads to this standing; one without operations is none."""
        if step:
            self._undone = []
            self._keep(step, links)

    def _keep(self, step, links):
        self._log.extend(step)
        self._done.append(step)
        self._standings.append(links)


def probe(desk, *operations):
    """Returns the states of all gaps that an attempt of the operations would lead to."""
    return gap_states(desk.foresee(operations))
