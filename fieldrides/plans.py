"""Plans: how the records of a list are merged two by two."""

from fieldrides.errors import NoPlan
from fieldrides.tools import check_place, check_record, check_records


def indices_of(plan):
    """The list of the indices of the plan from left to right."""
    if isinstance(plan, tuple):
        return indices_of(plan[0]) + indices_of(plan[1])
    return [plan]


def merged(book, plan, records):
    """The record that the plan ends with."""
    if isinstance(plan, tuple):
        return book(merged(book, plan[0], records), merged(book, plan[1], records))
    return records[plan]


def run_plan(book, plan, records):
    """The record that the plan ends with, when all its indices and all records are right."""
    for index in indices_of(plan):
        check_place(len(records), index)
    for record in records:
        check_record(book.fields, record)
    return merged(book, plan, records)


def chosen_by(mask, items):
    """The tuple of those of the items whose bits stand in the mask."""
    return tuple([item for at, item in enumerate(items) if (mask >> at) & 1 == 1])


def parts_of(many, order):
    """The tuples of indices that a plan for so many records can merge to one, smaller ones before larger ones."""
    if order == "any":
        return [chosen_by(mask, list(range(many))) for mask in range(1, 1 << many)]
    return [
        tuple(range(first, first + size))
        for size in range(1, many + 1) for first in range(many - size + 1)
    ]


def splits(part, order):
    """The pairs of smaller parts of which the two records come that a plan for the part merges last."""
    if order == "any":
        whole = (1 << len(part)) - 1
        return [(chosen_by(mask, part), chosen_by(whole - mask, part)) for mask in range(1, whole)]
    return [(part[:size], part[size:]) for size in range(1, len(part))]


def plans_for_part(book, records, pairs, known):
    """A dict from each end of the merges of the pairs of parts to a plan with this end."""
    found = {}
    for left, right in pairs:
        for older in known[left]:
            for newer in known[right]:
                found.setdefault(book(older, newer), (known[left][older], known[right][newer]))
    return found


def plans_by_end(book, records, order):
    """A dict from the end of each plan for the list to one plan with this end."""
    known = {}
    for part in parts_of(len(records), order):
        if len(part) == 1:
            known[part] = {records[part[0]]: part[0]}
        else:
            known[part] = plans_for_part(book, records, splits(part, order), known)
    return known[tuple(range(len(records)))]


def all_ends(book, records, *, order="rows"):
    """The ascending tuple of the ends of all plans for the list."""
    check_records(book.fields, records)
    return tuple(sorted(list(plans_by_end(book, records, order))))


def plan_for(book, records, end, *, order="rows"):
    """A plan for the list that ends with this record."""
    check_records(book.fields, records)
    check_record(book.fields, end)
    plans = plans_by_end(book, records, order)
    if end not in plans:
        raise NoPlan("no plan ends with this record")
    return plans[end]


def unlike_plans(book, records, *, order="rows"):
    """Two plans for the list with unlike ends, or None."""
    check_records(book.fields, records)
    plans = list(plans_by_end(book, records, order).values())
    return (plans[0], plans[1]) if len(plans) > 1 else None
