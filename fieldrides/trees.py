"""Trees: nested asks that tell a side for a row of signs."""

# Trees of plain fields have the end "clash", too, which names neither record.
MIRRORED_ENDS = {"older": "newer", "newer": "older", "clash": "clash"}


def branch(tree, mark):
    """The branch that an ask takes if the sign of its field is the mark."""
    # An ask is (field, less, same, more), so the branch of the mark -1 is item 1.
    return tree[mark + 2]


def follow(tree, row):
    """The end that the row of signs leads to."""
    while not isinstance(tree, str):
        tree = branch(tree, row[tree[0]])
    return tree


def ends(tree):
    """The ends of the tree in written order."""
    if isinstance(tree, str):
        return (tree,)
    return ends(tree[1]) + ends(tree[2]) + ends(tree[3])


def all_asks(tree):
    """The list of the fields of all asks, with repetitions."""
    if isinstance(tree, str):
        return []
    return [tree[0]] + all_asks(tree[1]) + all_asks(tree[2]) + all_asks(tree[3])


def asked(tree):
    """The ascending tuple of the fields that the tree asks anywhere."""
    return tuple(sorted(set(all_asks(tree))))


def fixed(tree, field, mark):
    """The tree without asks of the field, as if its sign were always the mark."""
    if isinstance(tree, str):
        return tree
    if tree[0] == field:
        return fixed(branch(tree, mark), field, mark)
    return (tree[0], fixed(tree[1], field, mark), fixed(tree[2], field, mark), fixed(tree[3], field, mark))


def least_in_order(tree, field, order):
    """The least tree of the field, when the fields of the order are not yet fixed."""
    if isinstance(tree, str):
        return tree
    asking, rest = order[0], order[1:]
    less = least_in_order(fixed(tree, asking, -1), field, rest)
    more = least_in_order(fixed(tree, asking, 1), field, rest)
    if asking == field:
        return less if less == more else (asking, less, "older", more)
    same = least_in_order(fixed(tree, asking, 0), field, rest)
    if less == same and same == more:
        return less
    return (asking, less, same, more)


def least_tree(tree, field, fields):
    """The least tree of the field in a book of so many fields."""
    # A field that is never asked makes no difference and would only cost time.
    found = asked(tree)
    others = [other for other in range(fields) if other != field]
    return least_in_order(tree, field, [place for place in [field] + others if place in found])


def needed_fields(tree, field, fields):
    """The ascending tuple of the fields whose signs alone can change the side of the field."""
    return asked(least_tree(tree, field, fields))


def mirror_tree(tree):
    """The tree for the two records in the other order."""
    if isinstance(tree, str):
        return MIRRORED_ENDS[tree]
    return (tree[0], mirror_tree(tree[3]), mirror_tree(tree[2]), mirror_tree(tree[1]))
