"""The decision whether a book is alike in rows, or in any order, with what shows it."""

from fieldrides.kinds import is_ranked
from fieldrides.parting import parts
from fieldrides.rulers import forest_of_rulers
from fieldrides.settling import is_settled, row_against, settling_fields
from fieldrides.tools import with_value
from fieldrides.witness import parting_records


class Verdict:
    """The answer yes with a forest and the settling fields, or the answer no with records that show it."""

    def __init__(self, forest, settled, records):
        self.forest = forest
        self.settled = settled
        self.records = records

    def __bool__(self):
        return self.forest is not None


def records_against(book, forest):
    """Three records that part because the book goes against the forest of its rulers, or None."""
    fields = list(range(book.fields))
    # The search for a field of kind first or last rests on ranked fields that are in order.
    ranked = [field for field in fields if is_ranked(forest.kinds[field])]
    others = [field for field in fields if not is_ranked(forest.kinds[field])]
    for field in ranked + others:
        row = row_against(book, forest, field)
        if row is not None:
            return parting_records(book, forest, field, row)
    return None


def unfair_records(forest):
    """Two records whose merges by the forest in both orders are unlike, or None if the forest is fair."""
    for field, kind in enumerate(forest.kinds):
        if not is_ranked(kind):
            low = (0,) * forest.fields
            return low, with_value(low, field, 1)
    return None


def decide(book, *, order="rows"):
    """The verdict whether the book is alike in rows or, with the order "any", in any order."""
    forest, records = forest_of_rulers(book)
    if forest is not None:
        records = records_against(book, forest)
    if records is None and order == "any":
        records = unfair_records(forest)
    if records is not None:
        return Verdict(None, None, records)
    return Verdict(forest, settling_fields(book, forest), None)


def check_verdict(book, verdict, *, order="rows"):
    """True if the verdict is right for the book and shows it."""
    if verdict.forest is None:
        return verdict.settled is None and shows_unlike(book, verdict.records, order)
    return verdict.records is None and shows_alike(book, verdict.forest, verdict.settled, order)


def shows_alike(book, forest, settled, order):
    """True if the forest and the settling fields show that the book is alike in the order."""
    if forest.fields != book.fields or (order == "any" and not forest.fair):
        return False
    return is_settled(book, forest) and settled == settling_fields(book, forest)


def is_small_record(record, fields):
    """True if the record has one value for each field, all of them 0, 1 or 2."""
    return len(record) == fields and not [value for value in record if value not in (0, 1, 2)]


def shows_unlike(book, records, order):
    """True if the records show that the book is not alike in the order."""
    if records is None or [record for record in records if not is_small_record(record, book.fields)]:
        return False
    if len(records) == 3:
        return parts(book, records[0], records[1], records[2])
    if len(records) == 2 and order == "any":
        return book(records[0], records[1]) != book(records[1], records[0])
    return False
