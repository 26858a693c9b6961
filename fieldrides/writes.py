"""Writes: changed values on a base record, and the fields to be raised so that they land."""

from fieldrides.errors import CannotLand, Overlap
from fieldrides.forests import check_fair
from fieldrides.tools import better, check_place, check_places, check_record, raised


def check_write(forest, base, changes):
    """Raise an error if the forest is not fair, or the base or the changes do not fit it."""
    check_fair(forest)
    check_record(forest.fields, base)
    check_places(forest.fields, sorted(changes))


def written(forest, base, changes):
    """The base record with the new values."""
    check_write(forest, base, changes)
    return tuple([changes.get(field, value) for field, value in enumerate(base)])


def fields_above(forest, field):
    """The tuple of the fields above the field, from the root on."""
    return forest.path(field)[:-1]


def improved(forest, base, changes, field):
    """True if the field is raised by the write."""
    return field in changes and better(forest.kinds[field], changes[field], base[field])


def is_blocked(forest, base, changes, field):
    """True if the field is lowered by the write and no field above it is raised."""
    if not better(forest.kinds[field], base[field], changes[field]):
        return False
    return not [above for above in fields_above(forest, field) if improved(forest, base, changes, above)]


def blocked_fields(forest, base, changes):
    """The ascending tuple of the lowered fields that have no raised field above them."""
    check_write(forest, base, changes)
    return tuple([field for field in sorted(changes) if is_blocked(forest, base, changes, field)])


def lands(forest, base, changes):
    """True if the end of the base and the written record is the written record."""
    return not blocked_fields(forest, base, changes)


def free_above(forest, changes, field):
    """The list of the free fields above a blocked field, from the root on."""
    free = [above for above in fields_above(forest, field) if above not in changes]
    if not free:
        raise CannotLand(field)
    return free


def nearest_raises(forest, base, changes):
    """The free fields above the blocked fields that are nearest to these."""
    blocked = blocked_fields(forest, base, changes)
    return tuple(sorted(set([free_above(forest, changes, field)[-1] for field in blocked])))


def fewest_raises(forest, base, changes):
    """The free fields above the blocked fields that are nearest to the root."""
    blocked = blocked_fields(forest, base, changes)
    return tuple(sorted(set([free_above(forest, changes, field)[0] for field in blocked])))


def with_raises(forest, base, changes, stamps):
    """A new dict of the changes and, for each of the stamps, the value of the base raised by 1."""
    check_write(forest, base, changes)
    result = dict(changes)
    for field in stamps:
        check_place(forest.fields, field)
        if field in changes:
            raise Overlap(field)
        result[field] = raised(forest.kinds[field], base[field], 1)
    return result


def reach(forest, fields):
    """The ascending tuple of the fields and of all fields beneath them."""
    check_fair(forest)
    check_places(forest.fields, fields)
    found = []
    for field in fields:
        found.append(field)
        found.extend(forest.beneath(field))
    return tuple(sorted(set(found)))


def both_stay(forest, first, second):
    """True if no field of one list lies above a field of the other one."""
    check_fair(forest)
    check_places(forest.fields, first)
    check_places(forest.fields, second)
    shared = [field for field in first if field in second]
    if shared:
        raise Overlap(min(shared))
    for field in first:
        for other in second:
            if field in forest.path(other) or other in forest.path(field):
                return False
    return True
