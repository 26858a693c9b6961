"""Plain fields: values that are only compared for being the same, and that hang on ranked fields."""

from fieldrides.bearing import end_along, kept_along
from fieldrides.errors import BadRecord, NoRecord
from fieldrides.forests import check_fair
from fieldrides.numbers import power
from fieldrides.tools import check_place

CLASH = 0


class PlainBook:
    """A fair forest, and for each plain field the ranked field on which it hangs, or None."""

    def __init__(self, forest, hangs):
        check_fair(forest)
        check_hangs(forest, hangs)
        self.forest = forest
        self.hangs = tuple(hangs)

    def __call__(self, older, newer):
        """The merge of an older and a newer plain record."""
        check_plain(self, older)
        check_plain(self, newer)
        return plain_end(self, [older, newer])

    def end(self, records):
        """The plain record with which all ways of merging the lot end."""
        check_plain_lot(self, records)
        return plain_end(self, records)


def check_hangs(forest, hangs):
    """Raise BadPlace for the first entry that is neither a field of the forest nor None."""
    for hang in hangs:
        if hang is not None:
            check_place(forest.fields, hang)


def check_plain(plain_book, record):
    """Raise BadRecord if a part of the plain record does not have one value for each of its fields."""
    ranked, plain = record
    if len(ranked) != plain_book.forest.fields or len(plain) != len(plain_book.hangs):
        raise BadRecord(record)


def check_plain_lot(plain_book, records):
    """Raise NoRecord if there is no plain record, or BadRecord for the first one with a part of a wrong length."""
    if len(records) == 0:
        raise NoRecord("there is no plain record")
    for record in records:
        check_plain(plain_book, record)


def common_value(values):
    """The value that all of at least one plain values are, or the clash."""
    return values[0] if values.count(values[0]) == len(values) else CLASH


def plain_end(plain_book, records):
    """The end of a lot of at least one plain record."""
    ranked = [record[0] for record in records]
    # A plain field comes from the records that bear the field on which it hangs; hanging on None, from all.
    kept = kept_along(plain_book.forest, ranked)
    plain = []
    for which, hang in enumerate(plain_book.hangs):
        plain.append(common_value([records[index][1][which] for index in kept[hang]]))
    return end_along(plain_book.forest, ranked), tuple(plain)


def clashing(records, which, first, second):
    """True if two records with unlike values, or one record with the clash, make the plain field clash."""
    value = records[first][1][which]
    if first == second:
        return value == CLASH
    return value != records[second][1][which]


def clash_pair(plain_book, records, which):
    """The least pair of indices of records that make the plain field of the end clash, or None."""
    check_plain_lot(plain_book, records)
    check_place(len(plain_book.hangs), which)
    kept = kept_along(plain_book.forest, [record[0] for record in records])[plain_book.hangs[which]]
    for at, first in enumerate(kept):
        for second in kept[at:]:
            if clashing(records, which, first, second):
                return (first, second)
    return None


def count_plain(fields, plain):
    """The number of ways to merge so many ranked and plain fields alike in any order."""
    return power(fields + 1, fields - 1 + plain) * (1 << fields)
