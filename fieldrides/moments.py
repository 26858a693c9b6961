"""Replacing records by their end, one record at a time."""

from fieldrides.rows import row_end
from fieldrides.tools import with_value


def press_moments(forest, records, *, behind=True):
    """The list of the rows of all moments while the records are replaced by their end."""
    end = row_end(forest, records)
    moments = [list(records)]
    for many in range(len(records), -1, -1):
        if behind:
            moments.append(list(records[:many]) + [end])
        else:
            moments.append([end] + list(records[len(records) - many:]))
    return moments


def bad_moment(forest, *, behind=True):
    """A row of two records and the row with another end when the wrong one is taken away first, or None."""
    kind = "first" if behind else "last"
    if kind not in forest.kinds:
        return None
    low = (0,) * forest.fields
    first, second = low, with_value(low, forest.kinds.index(kind), 1)
    if behind:
        return [first, second], [second, forest(first, second)]
    return [first, second], [forest(first, second), first]
