"""Signs, kinds of order, and small tools for records."""

from fieldrides.errors import BadPlace, BadRecord, NoRecord


def sign(older, newer):
    """The sign of two values: -1 if the older one is less, 0 if both are the same, 1 if it is more."""
    if older < newer:
        return -1
    if older > newer:
        return 1
    return 0


def signs(older, newer):
    """The row of signs of two records."""
    if len(older) != len(newer):
        raise BadRecord(newer)
    return tuple([sign(value, other) for value, other in zip(older, newer)])


def better(kind, value, other):
    """True if the value is better than the other one in a field of this kind."""
    if kind == "up":
        return value > other
    if kind == "down":
        return value < other
    return False


def raised(kind, value, by):
    """The value raised by a number."""
    if kind == "down":
        return value - by
    return value + by


def check_record(fields, record):
    """Raise BadRecord if the record does not have one value for each field."""
    if len(record) != fields:
        raise BadRecord(record)


def check_records(fields, records):
    """Raise NoRecord if there is no record, or BadRecord for the first one with a wrong number of values."""
    if len(records) == 0:
        raise NoRecord("there is no record")
    for record in records:
        check_record(fields, record)


def check_place(many, place):
    """Raise BadPlace if the place is not one of so many that are numbered from 0."""
    if place < 0 or place >= many:
        raise BadPlace(place)


def check_places(many, places):
    """Raise BadPlace for the first of the places that is not one of so many that are numbered from 0."""
    for place in places:
        check_place(many, place)


def without(records, index):
    """A new list of the records without the one with this index."""
    others = list(records)
    del others[index]
    return others


def with_value(record, field, value):
    """The record with another value in one field."""
    return record[:field] + (value,) + record[field + 1:]
