"""The written form of trees."""

from fieldrides.errors import BadText

DIGITS = "0123456789"
ENDS = ("older", "newer")


def write_tree(tree):
    """The written form of the tree."""
    if isinstance(tree, str):
        return tree
    return f"{tree[0]}({write_tree(tree[1])},{write_tree(tree[2])},{write_tree(tree[3])})"


def tree_at(text, at):
    """The tree whose written form begins at this index and the index behind it; or None and the index."""
    for end in ENDS:
        if text.startswith(end, at):
            return end, at + len(end)
    if at + 1 >= len(text) or text[at] not in DIGITS or text[at + 1] != "(":
        return None, at
    branches = []
    behind = at + 1
    for closing in (",", ",", ")"):
        tree, behind = tree_at(text, behind + 1)
        if tree is None or text[behind:behind + 1] != closing:
            return None, behind
        branches.append(tree)
    return (DIGITS.index(text[at]), *branches), behind + 1


def tree_in(text):
    """The tree of which the text is the written form, or None."""
    tree, behind = tree_at(text, 0)
    return tree if behind == len(text) else None


def read_tree(text):
    """The tree of which the text is the written form."""
    tree = tree_in(text)
    if tree is None:
        raise BadText(1)
    return tree
