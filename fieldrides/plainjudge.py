"""The decision whether a tree merges a plain field alike in any order, with what shows it."""

from fieldrides.books import differing_row
from fieldrides.errors import BadTree
from fieldrides.forests import check_fair, first_marked
from fieldrides.kinds import side_by
from fieldrides.plaintrees import PlainTree, parting_in_fields, parting_plain, plain_pair
from fieldrides.settling import wrong_row
from fieldrides.trees import asked, follow, mirror_tree
from fieldrides.walks import marked_row, nothing_known, row_of, ways


class PlainVerdict:
    """The answer with the ranked field (or None) on which the plain field hangs, or with records against it."""

    def __init__(self, alike, hang, records):
        self.alike = alike
        self.hang = hang
        self.records = records


def check_asks(forest, tree):
    """Raise BadTree if the tree asks a field that the forest does not have."""
    found = asked(tree)
    if found and found[-1] >= forest.fields:
        raise BadTree(None)


def unlike_in_order(forest, tree):
    """Two plain records whose merges in both orders are unlike, or None."""
    row = differing_row(tree, mirror_tree(tree), None, forest.fields)
    return None if row is None else plain_pair(row)


def lone_end(forest, tree, field):
    """The end of the tree for an older record that is better in the field and else like the newer one."""
    mark = 1 if side_by(forest.kinds[field], 1) == "older" else -1
    return follow(tree, marked_row(forest.fields, (field,), (mark,)))


def worse_first(forest, field):
    """Three plain records that part, if a merge takes the plain value from the record that is worse in the field."""
    mark = 1 if side_by(forest.kinds[field], 1) == "newer" else -1
    worse, best = plain_pair(marked_row(forest.fields, (field,), (mark,)))
    return (worse, best, best)


def broken_two(forest, carriers):
    """Two fields that cannot carry and not carry the plain field as they do, or None."""
    for field in carriers:
        for above in forest.path(field):
            if above not in carriers:
                return (above, field)
        for other in carriers:
            if other not in forest.path(field) and field not in forest.path(other):
                return (field, other)
    return None


def lowest_carrier(forest, carriers):
    """The carrier on whose path all others stand, or None if there is no carrier."""
    found = None
    for field in carriers:
        if found is None or found in forest.path(field):
            found = field
    return found


def find_hang(book):
    """The only field (or None) on which the plain field can hang, and None; or None, and records that part."""
    forest = book.forest
    carriers = []
    for field in range(forest.fields):
        end = lone_end(forest, book.tree, field)
        if end == "newer":
            return None, worse_first(forest, field)
        if end == "older":
            carriers.append(field)
    broken = broken_two(forest, carriers)
    if broken is not None:
        return None, parting_in_fields(book, broken)
    return lowest_carrier(forest, carriers), None


def wrong_plain_row(forest, hang, end, known):
    """A row with the known signs for which the hang does not give what the end names, or None."""
    if hang is None or first_marked(forest, hang, known) is None:
        return None if end == "clash" else row_of(known, None)
    return wrong_row(forest, hang, end, known)


def plain_records_against(book, hang):
    """Three plain records that part because the tree goes against the hang at some end, or None."""
    for end, known in ways(book.tree, None, nothing_known(book.forest.fields)):
        row = None if known is None else wrong_plain_row(book.forest, hang, end, known)
        if row is not None:
            return parting_plain(book, hang, row)
    return None


def decide_plain(forest, tree):
    """The verdict whether the forest and the tree merge all lots of plain records alike in any order."""
    check_fair(forest)
    check_asks(forest, tree)
    book = PlainTree(forest, tree)
    hang = None
    records = unlike_in_order(forest, tree)
    if records is None:
        hang, records = find_hang(book)
    if records is None:
        records = plain_records_against(book, hang)
    return PlainVerdict(records is None, hang if records is None else None, records)
