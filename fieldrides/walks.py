"""Which ends of a tree can be reached, and by which rows of signs.

Known signs are a tuple with -1, 0, 1 or None (not known) for each field. They stand for all rows of
signs that agree with them, so that no list of rows is needed.

The sign of the field of a tree is never 0 in the rows that lead to its ends. A tree that tells the side of
no ranked field has None in the place of the field, and then all rows count.
"""

from fieldrides.tools import with_value
from fieldrides.trees import branch

SIGNS = (-1, 0, 1)


def marked_row(fields, places, marks):
    """The row in which the fields of the places have these signs and all others the sign 0."""
    row = [0] * fields
    for field, mark in zip(places, marks):
        row[field] = mark
    return tuple(row)


def nothing_known(fields):
    """The known signs that stand for all rows."""
    return (None,) * fields


def narrowed(known, field, mark):
    """The known signs when the sign of the field is the mark, too, or None if it is another one."""
    if known[field] is None:
        return with_value(known, field, mark)
    return known if known[field] == mark else None


def behind_ask(known, field, asking, mark):
    """The known signs behind a branch, or None if no row in which the sign of the field is not 0 takes it."""
    if known is None or (asking == field and mark == 0):
        return None
    return narrowed(known, asking, mark)


def ways(tree, field, known):
    """For each end in written order a pair: the end, and the known signs of the rows that lead to it.

    In these rows the sign of the field is not 0; if none leads to the end, None stands in their place.
    """
    if isinstance(tree, str):
        return [(tree, known)]
    found = []
    for mark in SIGNS:
        found.extend(ways(branch(tree, mark), field, behind_ask(known, field, tree[0], mark)))
    return found


def reached(tree, field, known):
    """The pairs of `ways` to whose ends a row leads."""
    # Leaving out dead branches at once keeps walks through two trees short.
    if known is None:
        return []
    if isinstance(tree, str):
        return [(tree, known)]
    found = []
    for mark in SIGNS:
        found.extend(reached(branch(tree, mark), field, behind_ask(known, field, tree[0], mark)))
    return found


def common_side(tree, field, known):
    """The end to which all rows with the known signs lead, or None if they lead to unlike ends or there is none."""
    found = [end for end, _ in reached(tree, field, known)]
    return found[0] if found and found.count(found[0]) == len(found) else None


def row_of(known, field):
    """A row with the known signs, in which the sign of the field is not 0."""
    row = [0 if mark is None else mark for mark in known]
    if field is not None and known[field] is None:
        row[field] = 1
    return tuple(row)


def pair_of(row):
    """An older and a newer record with values 0 and 1 that have this row of signs."""
    older = tuple([1 if mark == 1 else 0 for mark in row])
    newer = tuple([1 if mark == -1 else 0 for mark in row])
    return older, newer
