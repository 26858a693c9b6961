"""Whether a forest gives the sides that the ends of a book's trees name."""

from fieldrides.forests import first_marked
from fieldrides.kinds import side_by
from fieldrides.walks import narrowed, nothing_known, row_of, ways


def end_ways(book, field):
    """For each end of the field's tree a pair: the end, and the known signs that lead to it, or None."""
    return ways(book.trees[field], field, nothing_known(book.fields))


def wrong_row(forest, field, end, known):
    """A row with the known signs for which the forest does not take the field from the side of the end, or None."""
    # A sign that is not known on the path counts here: rows with either sign lead to the end.
    marked = first_marked(forest, field, known)
    for mark in (-1, 1):
        after = narrowed(known, marked, mark)
        if after is not None and side_by(forest.kinds[marked], mark) != end:
            return row_of(after, field)
    return None


def row_against(book, forest, field):
    """A row of signs for which the book and the forest take the field from unlike sides, or None."""
    for end, known in end_ways(book, field):
        row = None if known is None else wrong_row(forest, field, end, known)
        if row is not None:
            return row
    return None


def is_settled(book, forest):
    """True if the book merges all records like the forest."""
    return not [field for field in range(book.fields) if row_against(book, forest, field) is not None]


def settling_fields(book, forest):
    """For each field and each end of its tree the settling field or None, if the book is alike to the forest's."""
    settled = []
    for field in range(book.fields):
        settled.append(tuple([
            None if known is None else first_marked(forest, field, known)
            for _, known in end_ways(book, field)
        ]))
    return tuple(settled)
