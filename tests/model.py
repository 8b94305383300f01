"""A second, plain account of standings and logs, written from the document alone, to test the package against."""

from itertools import combinations, product


MODES = ("free", "saving", "guarded", "checked")


class Model:
    """A standing as three plain values: right links, left links, and the nodes that are out."""

    def __init__(self, size):
        self.size = size
        self.right = {v: v + 1 for v in range(size + 1)}
        self.left = {v + 1: v for v in range(size + 1)}
        self.out = set()

    def apply(self, operation):
        x = abs(operation)
        l, r = self.left[x], self.right[x]
        if operation < 0:
            self.right[l], self.left[r] = r, l
            self.out.add(x)
        else:
            self.right[l], self.left[r] = x, x
            self.out.remove(x)

    def dump(self):
        rights = [self.right[v] for v in range(self.size + 1)]
        lefts = [self.left[v] for v in range(1, self.size + 2)]
        return " | ".join([words(rights), words(lefts), words(sorted(self.out)) or "none"])

    def is_sound(self):
        present = [v for v in range(self.size + 2) if v not in self.out]
        pairs = list(zip(present, present[1:]))
        return all(self.right[a] == b for a, b in pairs) and all(self.left[b] == a for a, b in pairs)

    def copy(self):
        return of_dump(self.dump())

    def is_lost(self):
        return "lost" in self.states()

    def sole_holders(self):
        """Point 15."""
        sides = {"left": 0, "right": 1}
        return {v + sides[state] for v, state in enumerate(self.states()) if state in sides}

    def legal(self):
        return [x if x in self.out else -x for x in range(1, self.size + 1)]

    def foreign_writes(self, operation):
        """Point 16."""
        x = abs(operation)
        l, r = self.left[x], self.right[x]
        found = [l] if l != x - 1 and self.right[l] == l + 1 else []
        return found + ([r - 1] if r != x + 1 and self.left[r] == r - 1 else [])

    def refused_by(self, operation):
        """Point 20: the modes that refuse a legal operation."""
        later = self.copy()
        later.apply(operation)
        lost = [was != "lost" and now == "lost" for was, now in zip(self.states(), later.states())]
        forced = []
        for gap in self.foreign_writes(operation):
            state = later.states()[gap]
            holder = gap if state == "left" else gap + 1
            forced.append(state == "lost" or holder not in later.out)
        x = abs(operation)
        l, r = self.left[x], self.right[x]
        wanted = (x, x) if operation < 0 else (r, l)
        fits = l not in self.out and r not in self.out and (self.right[l], self.left[r]) == wanted
        told = {"saving": any(lost), "guarded": any(forced), "checked": not fits}
        return [mode for mode in MODES if told.get(mode)]

    def states(self):
        told = []
        for v in range(self.size + 1):
            holds = (self.right[v] == v + 1, self.left[v + 1] == v)
            told.append({(True, True): "joined", (True, False): "left", (False, True): "right"}.get(holds, "lost"))
        return told


def words(numbers):
    return " ".join(str(number) for number in numbers)


def after(size, log):
    model = Model(size)
    for operation in log:
        model.apply(operation)
    return model


def of_dump(dump):
    """The model with a right dump."""
    rights, lefts, outs = dump.split(" | ")
    model = Model(len(rights.split()) - 1)
    model.right = dict(enumerate(map(int, rights.split())))
    model.left = dict(enumerate(map(int, lefts.split()), 1))
    model.out = set() if outs == "none" else set(map(int, outs.split()))
    return model


def signed(nodes, out=()):
    """The only legal log on these nodes in this order, if these nodes are out at first."""
    log, gone = [], set(out)
    for node in nodes:
        log.append(node if node in gone else -node)
        gone ^= {node}
    return log


def legal_logs(size, longest):
    """All legal logs from the whole list of up to this length."""
    for length in range(longest + 1):
        for nodes in product(range(1, size + 1), repeat=length):
            yield signed(nodes)


def all_logs(size, longest):
    """All logs of operations of up to this length, legal or not."""
    operations = [sign * node for node in range(1, size + 1) for sign in (-1, 1)]
    for length in range(longest + 1):
        for log in product(operations, repeat=length):
            yield list(log)


def is_legal(size, log):
    return signed([abs(operation) for operation in log]) == log


def reached(size, longest, mode="free"):
    """The dumps that the mode reaches from the whole list in up to this many operations, each with its least log."""
    found = {Model(size).dump(): []}
    level = list(found)
    for _ in range(longest):
        further = []
        for dump in level:
            for operation in of_dump(dump).legal():
                later = of_dump(dump)
                if mode not in later.refused_by(operation):
                    later.apply(operation)
                    if later.dump() not in found:
                        found[later.dump()] = found[dump] + [operation]
                        further.append(later.dump())
        level = further
    return found


def all_dumps(size):
    """The dumps of all standings of the size, also those that no log reaches."""
    rights = [range(v + 1, size + 2) for v in range(size + 1)]
    lefts = [range(v) for v in range(1, size + 2)]
    nodes = range(1, size + 1)
    outs = [out for k in range(size + 1) for out in combinations(nodes, k)]
    for right in product(*rights):
        for left in product(*lefts):
            for out in outs:
                yield " | ".join([words(right), words(left), words(out) or "none"])
