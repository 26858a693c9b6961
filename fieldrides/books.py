"""Books: one tree for each field."""

from fieldrides.errors import BadTree, FieldsDiffer
from fieldrides.tools import check_record, signs
from fieldrides.trees import asked, follow, least_tree, mirror_tree
from fieldrides.walks import nothing_known, pair_of, reached, row_of


class Book:
    """A book merges two records field by field, each by the tree of the field."""

    def __init__(self, trees):
        check_trees(trees)
        self.fields = len(trees)
        self.trees = tuple(trees)

    def __call__(self, older, newer):
        """The merge of an older and a newer record."""
        check_record(self.fields, older)
        check_record(self.fields, newer)
        row = signs(older, newer)
        return tuple([
            newer[field] if self.side(field, row) == "newer" else older[field]
            for field in range(self.fields)
        ])

    def side(self, field, row):
        """The side from which the field is taken, or "same" if both records have the same value."""
        if row[field] == 0:
            return "same"
        return follow(self.trees[field], row)


def check_trees(trees):
    """Raise BadTree if the trees do not make a book."""
    if len(trees) == 0:
        raise BadTree(None)
    for field, tree in enumerate(trees):
        found = asked(tree)
        if found and found[-1] >= len(trees):
            raise BadTree(field)


def least_book(book):
    """The book with the least trees."""
    return Book([least_tree(tree, field, book.fields) for field, tree in enumerate(book.trees)])


def mirror_book(book):
    """The book that merges two records as the given one does in the other order."""
    return Book([mirror_tree(tree) for tree in book.trees])


def differing_row(first, second, field, fields):
    """A row of signs for which two trees of a field name unlike sides, or None."""
    for end, known in reached(first, field, nothing_known(fields)):
        for other, both in reached(second, field, known):
            if other != end:
                return row_of(both, field)
    return None


def differing_pair(first, second):
    """Two records with values 0 and 1 that the two books merge differently, or None."""
    if first.fields != second.fields:
        raise FieldsDiffer(first.fields, second.fields)
    for field in range(first.fields):
        row = differing_row(first.trees[field], second.trees[field], field, first.fields)
        if row is not None:
            return pair_of(row)
    return None


def unfair_pair(book):
    """Two records with values 0 and 1 whose merges in both orders are unlike, or None."""
    return differing_pair(book, mirror_book(book))
