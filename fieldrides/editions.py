"""Two forests at work at once, and the changes that lead from one to the other."""

from fieldrides.books import differing_row
from fieldrides.errors import BadForest, FieldsDiffer, HangsOn
from fieldrides.forests import Forest
from fieldrides.kinds import is_ranked, tree_along
from fieldrides.tools import check_place, check_places
from fieldrides.walks import marked_row, pair_of


def check_two(first, second):
    """Raise FieldsDiffer if the two forests do not have the same number of fields."""
    if first.fields != second.fields:
        raise FieldsDiffer(first.fields, second.fields)


def unlike_fields(first, second):
    """The ascending tuple of the fields whose words in the two forests are unlike."""
    check_two(first, second)
    return tuple([field for field in range(first.fields) if first.word(field) != second.word(field)])


def parting_pair(first, second, field):
    """Two records with values 0 and 1 whose merges by the two forests differ in the field, or None."""
    check_two(first, second)
    check_place(first.fields, field)
    row = differing_row(tree_along(first.word(field)), tree_along(second.word(field)), field, first.fields)
    return None if row is None else pair_of(row)


def kept_fields(forest, fields):
    """The ascending tuple of the fields that are not in the list of dropped ones."""
    check_places(forest.fields, fields)
    return tuple([field for field in range(forest.fields) if field not in fields])


def first_hanging(forest, kept):
    """The lowest kept field beneath a dropped one, and the highest dropped field above it; or None."""
    for field in kept:
        dropped = [above for above in forest.path(field) if above not in kept]
        if dropped:
            return (field, dropped[0])
    return None


def drop(forest, fields):
    """The forest without the fields, and the ascending tuple of the kept fields."""
    kept = kept_fields(forest, fields)
    if not kept:
        raise BadForest(None)
    hanging = first_hanging(forest, kept)
    if hanging is not None:
        raise HangsOn(hanging[0], hanging[1])
    numbers = {None: None}
    for number, field in enumerate(kept):
        numbers[field] = number
    parents = [numbers[forest.parents[field]] for field in kept]
    return Forest(parents, [forest.kinds[field] for field in kept]), kept


def drop_witness(forest, fields):
    """Two pairs of records that agree in all kept fields, but whose merges do not; or None."""
    hanging = first_hanging(forest, kept_fields(forest, fields))
    if hanging is None:
        return None
    # The pairs differ in the dropped field alone, which decides for the kept one once so and once so.
    rows = [marked_row(forest.fields, hanging, (1, mark)) for mark in (1, -1)]
    return pair_of(rows[0]) + pair_of(rows[1])


def graft(forest, parent, kind):
    """The forest with one more field."""
    return Forest(forest.parents + (parent,), forest.kinds + (kind,))


def change(forest, field, parent, kind):
    """The forest in which one field has another parent and kind."""
    check_place(forest.fields, field)
    parents = list(forest.parents)
    kinds = list(forest.kinds)
    parents[field] = parent
    kinds[field] = kind
    return Forest(parents, kinds)


def place_in_plan(first, second, field):
    """What the change of a field is sorted by: the lower, the earlier it comes."""
    # Ranked fields are put in place from the roots on, so that what a field is to hang on stands already.
    if is_ranked(second.kinds[field]):
        return (0, len(second.path(field)), field)
    # The others are leaves in the end; those that hang on others of them now must leave first.
    return (1, -len(first.path(field)), field)


def change_plan(first, second):
    """The fewest single changes that lead from the first forest to the second, in their order."""
    check_two(first, second)
    places = []
    for field in range(first.fields):
        if (first.parents[field], first.kinds[field]) != (second.parents[field], second.kinds[field]):
            places.append(place_in_plan(first, second, field))
    return [(field, second.parents[field], second.kinds[field]) for _, _, field in sorted(places)]
