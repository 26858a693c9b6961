"""Forests: fields that ride on other fields."""

from fieldrides.books import Book
from fieldrides.errors import BadForest, NotFair
from fieldrides.kinds import is_ranked, side_by, tree_along
from fieldrides.tools import check_place, check_record, raised, signs

MOST_FIELDS = 16
TURNED = {"up": "down", "down": "up", "first": "first", "last": "last"}
MIRRORED = {"up": "up", "down": "down", "first": "last", "last": "first"}


class Forest:
    """A parent (or None) and a kind for each field."""

    def __init__(self, parents, kinds):
        check_forest(parents, kinds)
        self.fields = len(parents)
        self.parents = tuple(parents)
        self.kinds = tuple(kinds)

    def __call__(self, older, newer):
        """The merge of an older and a newer record."""
        check_record(self.fields, older)
        check_record(self.fields, newer)
        row = signs(older, newer)
        return tuple([
            newer[field] if forest_side(self, field, row) == "newer" else older[field]
            for field in range(self.fields)
        ])

    @property
    def roots(self):
        """The ascending tuple of the fields without a parent."""
        return tuple([field for field in range(self.fields) if self.parents[field] is None])

    @property
    def leaves(self):
        """The ascending tuple of the fields that are no field's parent."""
        return tuple([field for field in range(self.fields) if field not in self.parents])

    @property
    def fair(self):
        """True if no field has the kind "first" or "last"."""
        return "first" not in self.kinds and "last" not in self.kinds

    def path(self, field):
        """The tuple of the fields from the root of the field to the field itself."""
        way = (field,)
        while self.parents[way[0]] is not None:
            way = (self.parents[way[0]],) + way
        return way

    def word(self, field):
        """The tuple of the pairs (field, kind) along the path of the field."""
        return tuple([(step, self.kinds[step]) for step in self.path(field)])

    def children(self, field):
        """The ascending tuple of the fields whose parent is the field (or None)."""
        return tuple([child for child in range(self.fields) if self.parents[child] == field])

    def beneath(self, field):
        """The ascending tuple of the fields beneath the field."""
        return tuple([
            other for other in range(self.fields)
            if other != field and field in self.path(other)
        ])


def way_ends(parents, field):
    """True if the way from the field to its parents ends at a root."""
    for _ in parents:
        if field is None:
            return True
        field = parents[field]
    return field is None


def check_forest(parents, kinds):
    """Raise BadForest if the parents and kinds do not make a forest."""
    fields = len(parents)
    if fields != len(kinds) or fields < 1 or fields > MOST_FIELDS:
        raise BadForest(None)
    for field, parent in enumerate(parents):
        if parent is not None and (parent < 0 or parent >= fields):
            raise BadForest(field)
    for field in range(fields):
        if not way_ends(parents, field):
            raise BadForest(field)
    for field, kind in enumerate(kinds):
        if not is_ranked(kind) and field in parents:
            raise BadForest(field)


def check_fair(forest):
    """Raise NotFair if a field has the kind "first" or "last"."""
    for field, kind in enumerate(forest.kinds):
        if not is_ranked(kind):
            raise NotFair(field)


def first_marked(forest, field, row):
    """The first field on the path of the field whose sign is not 0, or None."""
    for step in forest.path(field):
        if row[step] != 0:
            return step
    return None


def forest_side(forest, field, row):
    """The side from which the forest takes the field, or "same" if both records have the same value."""
    marked = first_marked(forest, field, row)
    if marked is None:
        return "same"
    return side_by(forest.kinds[marked], row[marked])


def first_unlike(forest, field, first, second):
    """The first field on the path of the field in which the two records have unlike values, or None."""
    check_place(forest.fields, field)
    check_record(forest.fields, first)
    check_record(forest.fields, second)
    return first_marked(forest, field, signs(first, second))


def turned_forest(forest):
    """The forest with "up" and "down" exchanged."""
    return Forest(forest.parents, [TURNED[kind] for kind in forest.kinds])


def mirror_forest(forest):
    """The forest with "first" and "last" exchanged."""
    return Forest(forest.parents, [MIRRORED[kind] for kind in forest.kinds])


def book_of(forest):
    """The book that merges all records like the forest."""
    return Book([tree_along(forest.word(field)) for field in range(forest.fields)])


def zeros_raised(forest, fields):
    """The record of zeros with these fields raised by 1."""
    return tuple([raised(kind, 0, 1) if field in fields else 0 for field, kind in enumerate(forest.kinds)])
