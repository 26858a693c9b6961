"""Firm fields: those that no letter which is still under way can change."""

from fieldrides.forests import check_fair, forest_side
from fieldrides.tools import check_place, check_record, raised, signs, with_value


def check_bound(forest, copy, bound):
    """Raise an error if the forest is not fair or one of the two records does not fit it."""
    check_fair(forest)
    check_record(forest.fields, copy)
    check_record(forest.fields, bound)


def is_firm(forest, copy, bound, field):
    """True if the first unlike field of the field is better in the copy or does not exist."""
    return forest_side(forest, field, signs(copy, bound)) != "newer"


def firm_fields(forest, copy, bound):
    """The ascending tuple of the firm fields."""
    check_bound(forest, copy, bound)
    return tuple([field for field in range(forest.fields) if is_firm(forest, copy, bound, field)])


def moving_letter(forest, copy, bound, field):
    """A record in no field better than the bound whose merge with the copy changes the field, or None."""
    check_bound(forest, copy, bound)
    check_place(forest.fields, field)
    if is_firm(forest, copy, bound, field):
        return None
    if copy[field] != bound[field]:
        return bound
    return with_value(bound, field, raised(forest.kinds[field], bound[field], -1))
