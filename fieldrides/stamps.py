"""Stamps: new fields by which a fair forest gives in any order what a forest gives in a row."""

from fieldrides.forests import Forest
from fieldrides.rows import hung_classes
from fieldrides.tools import check_records

# Of the indices in the row, the lowest is best for leaves of kind "first", and the greatest for "last".
STAMP_KINDS = {"first": "down", "last": "up"}


def stamped(forest):
    """The fair forest with one new field above each bearer class of kind "first" or "last"."""
    parents = list(forest.parents)
    kinds = list(forest.kinds)
    for kind in STAMP_KINDS:
        for parent, hung in hung_classes(forest, kind):
            for leaf in hung:
                parents[leaf] = len(parents)
                kinds[leaf] = "up"
            parents.append(parent)
            kinds.append(STAMP_KINDS[kind])
    return Forest(parents, kinds)


def stamp_row(forest, records):
    """The records for the stamped forest: each with its index in every new field."""
    check_records(forest.fields, records)
    stamps = sum([len(hung_classes(forest, kind)) for kind in STAMP_KINDS])
    return [record + (index,) * stamps for index, record in enumerate(records)]
