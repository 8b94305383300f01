"""A second account of checked standings, from the document alone: their trees, texts, order and distances."""

from functools import lru_cache

from tests.model import of_dump, reached


@lru_cache(maxsize=None)
def checked_dumps(size):
    """The dumps of all checked standings of the size, each with a log that leads to it."""
    return reached(size, 2 * size, "checked")


def root_of(model, low, high):
    """The root of the tree over the range, or None if there is none."""
    found = [x for x in range(low + 1, high) if x in model.out and (model.left[x], model.right[x]) == (low, high)]
    return found[0] if len(found) == 1 else None


def tree_of(model, low, high):
    """Point 32: the tree over a range as (place of its root, left subtree, right subtree), or () if it is empty."""
    if low + 1 == high:
        return ()
    root = root_of(model, low, high)
    if root is None:
        raise LookupError("no tree")
    return root - low, tree_of(model, low, root), tree_of(model, root, high)


def is_checked(model):
    """Point 32: whether the standing is of the form of a checked one."""
    present = [v for v in range(model.size + 2) if v not in model.out]
    try:
        for low, high in zip(present, present[1:]):
            tree_of(model, low, high)
    except LookupError:
        return False
    return model.is_sound()


def tree_text(tree):
    return "(" + tree_text(tree[1]) + "*" + tree_text(tree[2]) + ")" if tree else ""


def text_of(model):
    """Point 35."""
    present = [v for v in range(model.size + 2) if v not in model.out]
    trees = [tree_text(tree_of(model, low, high)) for low, high in zip(present, present[1:])]
    return ".".join(trees)


def order_key(model, low=0):
    """Point 36: what standings of one size are compared by."""
    high = min(v for v in range(low + 1, model.size + 2) if v not in model.out)
    return (high - low - 1, tree_of(model, low, high), () if high > model.size else order_key(model, high))


def parents_of(model):
    """Point 33: the parent of each node that is out, 0 for a top."""
    found = {}

    def go(low, high, above):
        if low + 1 < high:
            root = root_of(model, low, high)
            found[root] = above
            go(low, root, root)
            go(root, high, root)

    present = [v for v in range(model.size + 2) if v not in model.out]
    for low, high in zip(present, present[1:]):
        go(low, high, 0)
    return found


@lru_cache(maxsize=None)
def checked_steps(size):
    """For each checked standing: the operations that the checked mode admits, by ascending node, and what follows."""
    steps = {}
    for dump in checked_dumps(size):
        steps[dump] = []
        for operation in of_dump(dump).legal():
            if "checked" not in of_dump(dump).refused_by(operation):
                later = of_dump(dump)
                later.apply(operation)
                steps[dump].append((operation, later.dump()))
    return steps


@lru_cache(maxsize=None)
def distances_from(size, dump):
    """The least numbers of operations of the checked mode to all standings."""
    found, level = {dump: 0}, [dump]
    while level:
        further = []
        for here in level:
            for _, later in checked_steps(size)[here]:
                if later not in found:
                    found[later] = found[here] + 1
                    further.append(later)
        level = further
    return found


def shortest_plans(size, dump, goal):
    """All shortest logs of the checked mode from one standing to another one."""
    # The checked mode can take back each operation, so the way there is as long as the way back.
    left = distances_from(size, goal)
    if dump == goal:
        return [[]]
    found = []
    for operation, later in checked_steps(size)[dump]:
        if left[later] == left[dump] - 1:
            found.extend([[operation] + plan for plan in shortest_plans(size, later, goal)])
    return found


@lru_cache(maxsize=None)
def valid_texts(size):
    """Point 35: the texts of all checked standings of the size, made from the words of the point alone."""
    texts = []
    for many in range(size + 1):
        for tree in tree_texts(many):
            if many == size:
                texts.append(tree)
            else:
                texts.extend([tree + "." + rest for rest in valid_texts(size - many - 1)])
    return texts


@lru_cache(maxsize=None)
def tree_texts(many):
    if many == 0:
        return [""]
    return ["(" + left + "*" + right + ")" for place in range(many)
            for left in tree_texts(place) for right in tree_texts(many - 1 - place)]
