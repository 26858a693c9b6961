"""Letters between houses: records of which some fields are left out."""

from fieldrides.errors import BadLetter
from fieldrides.forests import check_fair, forest_side
from fieldrides.tools import check_place, check_record, raised, signs, with_value


def check_letter(forest, letter):
    """Raise an error if the letter does not fit the forest."""
    check_record(forest.fields, letter)
    for field, parent in enumerate(forest.parents):
        if letter[field] is not None and parent is not None and letter[parent] is None:
            raise BadLetter(field)


def receive(forest, copy, letter):
    """The new copy of a receiver who merges its copy with the letter."""
    check_fair(forest)
    check_record(forest.fields, copy)
    check_letter(forest, letter)
    # With the letter come the fields above it, so what it leaves out decides nothing; there the copy stays.
    whole = [own if value is None else value for own, value in zip(copy, letter)]
    return forest(copy, tuple(whole))


def check_known(forest, known, copy):
    """Raise an error if the forest is not fair or one of the two records does not fit it."""
    check_fair(forest)
    check_record(forest.fields, known)
    check_record(forest.fields, copy)


def wins(forest, known, copy, field):
    """True if the first unlike field of the field exists and is better in the copy than in the known record."""
    return forest_side(forest, field, signs(copy, known)) == "older"


def winning_fields(forest, known, copy):
    """The ascending tuple of the fields that come from the sender's copy, whatever the receiver holds."""
    check_known(forest, known, copy)
    return tuple([field for field in range(forest.fields) if wins(forest, known, copy, field)])


def least_letter(forest, known, copy):
    """The letter that has the fields on the paths of the winning fields alone."""
    needed = []
    for field in winning_fields(forest, known, copy):
        needed.extend(forest.path(field))
    return tuple([value if field in needed else None for field, value in enumerate(copy)])


def left_out_shows(forest, known, copy, field):
    """A record above the known one for which no letter without the winning field is right, or None."""
    check_known(forest, known, copy)
    check_place(forest.fields, field)
    if not wins(forest, known, copy, field):
        return None
    if known[field] != copy[field]:
        return known
    return with_value(known, field, raised(forest.kinds[field], known[field], 1))
