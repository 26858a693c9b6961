"""What the kind of a field says about the side that a merge takes."""

# The sides that a field of a kind names when its own sign is -1 and 1.
SIDES = {
    "up": ("newer", "older"),
    "down": ("older", "newer"),
    "first": ("older", "older"),
    "last": ("newer", "newer"),
}


def is_ranked(kind):
    """True if one of two values of a field of this kind is better."""
    return kind == "up" or kind == "down"


def side_by(kind, mark):
    """The side that a field of this kind names when its sign is the mark, -1 or 1."""
    less, more = SIDES[kind]
    return less if mark < 0 else more


def kind_by(less, more):
    """The kind that names these two sides at the signs -1 and 1, or None if there is none."""
    for kind in SIDES:
        if SIDES[kind] == (less, more):
            return kind
    return None


def tree_along(word):
    """The tree that asks the fields of a word from the first step to the last."""
    last, kind = word[-1]
    less, more = SIDES[kind]
    tree = (last, less, "older", more) if is_ranked(kind) else less
    for field, kind in reversed(word[:-1]):
        less, more = SIDES[kind]
        tree = (field, less, tree, more)
    return tree
