"""Which fields rule which others in a book, and the only forest that this allows."""

from fieldrides.forests import Forest
from fieldrides.kinds import is_ranked, kind_by, side_by
from fieldrides.parting import parting_among
from fieldrides.walks import marked_row


def lone_kind(book, field):
    """The kind by which the field goes in records that differ in it alone."""
    less = book.side(field, marked_row(book.fields, (field,), (-1,)))
    more = book.side(field, marked_row(book.fields, (field,), (1,)))
    return kind_by(less, more)


def goes_by(book, kinds, pair, judges):
    """True if, in records that differ in the pair alone, each field of the pair goes by its judge's kind and sign."""
    for marks in ((-1, -1), (-1, 1), (1, -1), (1, 1)):
        row = marked_row(book.fields, pair, marks)
        for field, judge in zip(pair, judges):
            if book.side(field, row) != side_by(kinds[judge], row[judge]):
                return False
    return True


def judges_of(book, kinds, first, second):
    """The fields by which the first and the second field go in records that differ in these two, or None."""
    pair = (first, second)
    choices = [pair] + [(judge, judge) for judge in pair if is_ranked(kinds[judge])]
    for judges in choices:
        if goes_by(book, kinds, pair, judges):
            return judges
    return None


def find_rulers(book, kinds):
    """The list of the rulers of each field, and None; or None, and the first pair that allows no forest."""
    rulers = [[] for _ in range(book.fields)]
    for first in range(book.fields):
        for second in range(first + 1, book.fields):
            judges = judges_of(book, kinds, first, second)
            if judges is None:
                return None, (first, second)
            if judges == (first, first):
                rulers[second].append(first)
            if judges == (second, second):
                rulers[first].append(second)
    return rulers, None


def broken_three(rulers):
    """Three fields whose rulers are those of no forest, or None."""
    for field, above in enumerate(rulers):
        for ruler in above:
            for higher in rulers[ruler]:
                if higher not in above:
                    return (higher, ruler, field)
            for other in above:
                if other != ruler and other not in rulers[ruler] and ruler not in rulers[other]:
                    return (other, ruler, field)
    return None


def nearest_ruler(rulers, field):
    """The ruler of the field that has the most rulers itself, or None."""
    found = None
    for ruler in rulers[field]:
        if found is None or len(rulers[ruler]) > len(rulers[found]):
            found = ruler
    return found


def forest_of_rulers(book):
    """The only forest to which the book can be alike, and None; or None, and three records that part."""
    kinds = [lone_kind(book, field) for field in range(book.fields)]
    rulers, broken = find_rulers(book, kinds)
    if broken is None:
        broken = broken_three(rulers)
    if broken is not None:
        return None, parting_among(book, broken)
    return Forest([nearest_ruler(rulers, field) for field in range(book.fields)], kinds), None
