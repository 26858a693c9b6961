"""Plain records whose one plain field is merged by a tree, and three of them that part (point 65)."""

from fieldrides.forests import first_unlike
from fieldrides.parting import first_parting, grid, parting_of
from fieldrides.plain import CLASH
from fieldrides.tools import better, signs, with_value
from fieldrides.trees import follow
from fieldrides.walks import pair_of

# The plain values of two records that are to be merged.
OLDER_VALUE = 1
NEWER_VALUE = 2
# Ranked values begin two steps apart, so that another value finds room between them.
SPAN = 2


class PlainTree:
    """Merges the ranked fields by a fair forest, and one plain field by a tree."""

    def __init__(self, forest, tree):
        self.forest = forest
        self.tree = tree

    def __call__(self, older, newer):
        """The merge of an older and a newer plain record."""
        return self.forest(older[0], newer[0]), (self.value(older, newer),)

    def value(self, older, newer):
        """The plain value of the merge."""
        if older[1] == newer[1]:
            return older[1][0]
        end = follow(self.tree, signs(older[0], newer[0]))
        if end == "clash":
            return CLASH
        return older[1][0] if end == "older" else newer[1][0]


def plain_pair(row):
    """An older and a newer plain record with this row of signs, and with unlike plain values."""
    older, newer = pair_of(row)
    return (
        (tuple([SPAN * value for value in older]), (OLDER_VALUE,)),
        (tuple([SPAN * value for value in newer]), (NEWER_VALUE,)),
    )


def parting_in_fields(book, places):
    """Three plain records that differ in these two ranked fields and the plain field alone and part, or None."""
    records = []
    for ranked in grid(book.forest.fields, places):
        records.extend([(ranked, (value,)) for value in (CLASH, OLDER_VALUE, NEWER_VALUE)])
    return parting_of(book, records)


def parting_beneath(book, ruler, x, y):
    """Three plain records that part, if the ruler gives the plain value to its better record, but the merge does not.

    The ruler is the first field on the path of the hang in which x and y are unlike.
    """
    best, other = x, y
    if better(book.forest.kinds[ruler], y[0][ruler], x[0][ruler]):
        best, other = y, x
    winner = (book(x, y)[0], best[1])
    between = (x[0][ruler] + y[0][ruler]) // 2
    middle = (with_value(winner[0], ruler, between), other[1])
    return first_parting(book, [(winner, middle, other), (winner, best, other)])


def parting_apart(book, x, y):
    """Three plain records that part, if x and y are the same along the hang, but the merge has the value of x."""
    merged = book(x, y)
    # Going down from the merge to the worst values, no step changes a field that carries the plain one.
    step = merged[0]
    steps = [step]
    for field, kind in enumerate(book.forest.kinds):
        if better(kind, step[field], y[0][field]):
            step = with_value(step, field, y[0][field])
            steps.append(step)
    worst = (step, y[1])
    triples = [(y, y, x), (worst, y, merged)]
    for higher, lower in zip(steps, steps[1:]):
        triples.append((worst, (lower, x[1]), (higher, x[1])))
    return first_parting(book, triples)


def parting_plain(book, hang, row):
    """Three plain records that part, if the tree goes against the hang at this row of signs.

    The order of merging two plain records must not matter, and the fields that carry the plain field alone
    must be those on the path of the hang.
    """
    x, y = plain_pair(row)
    ruler = None if hang is None else first_unlike(book.forest, hang, x[0], y[0])
    if ruler is not None:
        return parting_beneath(book, ruler, x, y)
    if book.value(x, y) == x[1][0]:
        return parting_apart(book, x, y)
    return parting_apart(book, y, x)
