"""Rows of records, the older ones first: their ends, and which of their records matter."""

from fieldrides.bearing import end_along, kept_along
from fieldrides.forests import zeros_raised
from fieldrides.kinds import is_ranked
from fieldrides.tools import check_place, check_records, without


def row_end(forest, records):
    """The record with which all ways of merging neighbours end."""
    check_records(forest.fields, records)
    return end_along(forest, records)


def ranked_leaves(forest):
    """The list of the leaves of kind "up" or "down"."""
    return [leaf for leaf in forest.leaves if is_ranked(forest.kinds[leaf])]


def hung_classes(forest, kind):
    """The list of the bearer classes of kind "first" or "last", each as a pair: the parent and the leaves.

    The class without a parent comes first, then the others, ascending by parent.
    """
    found = []
    for parent in [None] + list(range(forest.fields)):
        hung = tuple([child for child in forest.children(parent) if forest.kinds[child] == kind])
        if hung:
            found.append((parent, hung))
    return found


def class_count(forest):
    """The number of the bearer classes."""
    return len(ranked_leaves(forest)) + len(hung_classes(forest, "first")) + len(hung_classes(forest, "last"))


def keepers(forest, records):
    """The indices of at most as many records as there are bearer classes, which alone have the end of the row."""
    check_records(forest.fields, records)
    kept = kept_along(forest, records)
    chosen = [kept[leaf][0] for leaf in ranked_leaves(forest)]
    # All leaves of one class are taken from the same one of the records that are kept at their parent.
    chosen.extend([kept[parent][0] for parent, _ in hung_classes(forest, "first")])
    chosen.extend([kept[parent][-1] for parent, _ in hung_classes(forest, "last")])
    return tuple(sorted(set(chosen)))


def hung_by_way(forest, kind):
    """The list of the leaves of the classes of kind "first" or "last", those with the shorter way first."""
    ways = sorted([(len(forest.path(hung[0])), hung) for _, hung in hung_classes(forest, kind)])
    return [hung for _, hung in ways]


def needy_row(forest):
    """A row with one record for each bearer class, of which none can be left out."""
    classes = hung_by_way(forest, "first")
    classes.extend([(leaf,) for leaf in ranked_leaves(forest)])
    # A record whose leaves are "last" must stand behind all that are kept at its parent, so the longest way is first.
    classes.extend(hung_by_way(forest, "last")[::-1])
    return [zeros_raised(forest, forest.path(leaves[0]) + leaves) for leaves in classes]


def can_strike(forest, records, index):
    """True if the end is the same with and without the record, whatever stands around the row."""
    check_records(forest.fields, records)
    check_place(len(records), index)
    others = without(records, index)
    return len(others) > 0 and end_along(forest, others) == end_along(forest, records)
