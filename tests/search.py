"""A search over all standings of small lists, also those that no log reaches, to test what repairs are said to be."""

from functools import lru_cache
from heapq import heappop, heappush

from tests.model import Model, all_dumps, of_dump

SIZES = (0, 1, 2, 3)


@lru_cache(maxsize=None)
def all_steps(size):
    """For each standing, by its dump: the legal operations, by ascending node, each with the dump after it."""
    steps = {}
    for dump in all_dumps(size):
        steps[dump] = []
        for operation in of_dump(dump).legal():
            later = of_dump(dump)
            later.apply(operation)
            steps[dump].append((operation, later.dump()))
    return steps


@lru_cache(maxsize=None)
def costs_to_whole(size, weights=None, allowed=None, relinks_only=False):
    """The least cost of a log to the whole list, for each standing from which one leads there. An operation costs the
    weight of its node, 1 if there are no weights; only the allowed nodes act, all if there are none named."""
    before = {}
    for dump, steps in all_steps(size).items():
        for operation, later in steps:
            if (allowed is None or abs(operation) in allowed) and not (relinks_only and operation < 0):
                weight = 1 if weights is None else weights[abs(operation) - 1]
                before.setdefault(later, []).append((weight, dump))
    costs = {}
    queue = [(0, Model(size).dump())]
    while queue:
        cost, here = heappop(queue)
        if here not in costs:
            costs[here] = cost
            for weight, dump in before.get(here, []):
                if dump not in costs:
                    heappush(queue, (cost + weight, dump))
    return costs


@lru_cache(maxsize=None)
def shortest_logs(size, dump):
    """All shortest logs, as tuples, from the standing to the whole list, in the order of their nodes."""
    costs = costs_to_whole(size)
    if dump not in costs:
        return []
    if costs[dump] == 0:
        return [()]
    found = []
    for operation, later in all_steps(size)[dump]:
        if costs.get(later) == costs[dump] - 1:
            found.extend([(operation,) + log for log in shortest_logs(size, later)])
    return found
