"""The order of records by a fair forest, and copies of records that are joined by signs."""

from fieldrides.errors import ForestsDiffer
from fieldrides.forests import check_fair, turned_forest
from fieldrides.lots import lot_end
from fieldrides.tools import check_record


def is_below(forest, first, second):
    """True if the end of the two records is the second."""
    return lot_end(forest, [first, second]) == second


def meet(forest, records):
    """The greatest record that is below all records of the lot."""
    return lot_end(turned_forest(forest), records)


class Copy:
    """A record with its forest."""

    def __init__(self, forest, record):
        check_fair(forest)
        check_record(forest.fields, record)
        self.forest = forest
        self.record = record

    def __or__(self, other):
        """A new copy with the end of both records."""
        check_same(self.forest, other.forest)
        return Copy(self.forest, lot_end(self.forest, [self.record, other.record]))

    def __and__(self, other):
        """A new copy with the meet of both records."""
        check_same(self.forest, other.forest)
        return Copy(self.forest, meet(self.forest, [self.record, other.record]))


def check_same(first, second):
    """Raise ForestsDiffer if the two forests do not have the same parents and kinds."""
    if first.parents != second.parents or first.kinds != second.kinds:
        raise ForestsDiffer("the forests of the two copies are unlike")
