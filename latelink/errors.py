"""The errors of the program, each with the attributes that it is created with."""


class LinkError(ValueError):
    """The base class of all errors of the program."""


class LogError(LinkError):
    """The base class of the errors that speak of an operation of a log."""

    def __init__(self, operation, index):
        self.operation = operation
        self.index = index


class BadOperation(LogError):
    """An integer that is 0, or beyond the size in absolute value, is no operation."""


class Illegal(LogError):
    """An unlink of a node that is out, or a relink of a node that is in."""


class Refused(LogError):
    """A legal operation that a mode does not admit; refusing is the refusing mode."""

    def __init__(self, operation, index, refusing):
        LogError.__init__(self, operation, index)
        self.refusing = refusing


class BadSize(LinkError):
    """An integer that is not from 0 to 60 is no size of a list."""

    def __init__(self, size):
        self.size = size


class BadNode(LinkError):
    """An integer that is not among the nodes that the call takes."""

    def __init__(self, node):
        self.node = node


class BadGap(LinkError):
    """An integer that is not from 0 to the size is no gap."""

    def __init__(self, gap):
        self.gap = gap


class BadMode(LinkError):
    """A text that is not the name of a mode."""

    def __init__(self, name):
        self.name = name


class BadText(LinkError):
    """A text that cannot be read; place tells where."""

    def __init__(self, place):
        self.place = place


class BadDump(LinkError):
    """A text that is not the dump of a standing; part is the first wrong part."""

    def __init__(self, part):
        self.part = part


class BadRange(LinkError):
    """Two integers that do not bound a range of nodes."""

    def __init__(self, low, high):
        self.low = low
        self.high = high


class BadCount(LinkError):
    """A count that is too low or too high for the call."""

    def __init__(self, count):
        self.count = count


class BadWeights(LinkError):
    """A list that does not weigh each node by 0 or more; count is its length."""

    def __init__(self, count):
        self.count = count


class BadRemoval(LinkError):
    """A removal with a member that is no node or stands there twice."""

    def __init__(self, index):
        self.index = index


class BadOrder(LinkError):
    """An order of return with a wrong or a missing member."""

    def __init__(self, index):
        self.index = index


class BadRank(LinkError):
    """An integer that is the rank of no checked standing of the size."""

    def __init__(self, rank):
        self.rank = rank


class BadPlace(LinkError):
    """An integer that is not the place of a fit."""

    def __init__(self, place):
        self.place = place


class BadIndex(LinkError):
    """An integer that is not the index of an operation of the log."""

    def __init__(self, index):
        self.index = index


class BadProgram(LinkError):
    """A program of a session that is wrong at the index."""

    def __init__(self, session, index):
        self.session = session
        self.index = index


class BadSchedule(LinkError):
    """A schedule with an entry that lets no session go."""

    def __init__(self, index):
        self.index = index


class BadTurn(LinkError):
    """A text that is not the name of a turn."""

    def __init__(self, turn):
        self.turn = turn


class BadFact(LinkError):
    """A list of facts with a member that is no fact about the size."""

    def __init__(self, index):
        self.index = index


class BadCapacity(LinkError):
    """An integer that is not from 1 to 2000 is no capacity of a desk."""

    def __init__(self, capacity):
        self.capacity = capacity


class TooMany(LinkError):
    """More than the call can go through; limit is the most that it takes."""

    def __init__(self, limit):
        self.limit = limit


class SizeMismatch(LinkError):
    """Two forests of different sizes."""

    def __init__(self, first, second):
        self.first = first
        self.second = second


class Unknown(LinkError):
    """A standing, given by its dump, that is not in the atlas."""

    def __init__(self, standing):
        self.standing = standing


class NotRepairable(LinkError):
    """A standing that no repair leads from; gap is the least lost gap."""

    def __init__(self, gap):
        self.gap = gap


class NotLost(LinkError):
    """A log after which no gap is lost."""

    def __init__(self, size):
        self.size = size


class NotOnce(LinkError):
    """A legal log that unlinks a node for the second time at the index."""

    def __init__(self, index):
        self.index = index


class NotChecked(LinkError):
    """A standing, given by its dump, that the checked mode does not reach."""

    def __init__(self, standing):
        self.standing = standing


class Barred(LinkError):
    """A due node that is not allowed to act."""

    def __init__(self, node):
        self.node = node


class Unsafe(LinkError):
    """Programs after which the list is not always whole; schedule is a bad one."""

    def __init__(self, schedule):
        self.schedule = list(schedule)


class Stuck(LinkError):
    """A run in which no session can go on; schedule is what was done so far."""

    def __init__(self, schedule):
        self.schedule = list(schedule)


class NoFit(LinkError):
    """Nothing of the size fits what is known."""

    def __init__(self, size):
        self.size = size


class Full(LinkError):
    """An operation that would make the log of a desk longer than its capacity."""

    def __init__(self, capacity):
        self.capacity = capacity


class Stale(LinkError):
    """An operation of the log that is not the last one on its node."""

    def __init__(self, index):
        self.index = index


class NothingToUndo(LinkError):
    """There is no step that an undo could take back."""


class NothingToRedo(LinkError):
    """There is no step that a redo could do again."""
