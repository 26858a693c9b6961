"""Boxes of records, and runs: lists in which each record of the box is below the next one."""

from math import comb

from fieldrides.errors import BadRecord, BadSizes
from fieldrides.forests import check_fair
from fieldrides.numbers import power
from fieldrides.tools import check_record


def check_box(forest, sizes):
    """Raise an error if the forest is not fair or the sizes do not make a box for it."""
    check_fair(forest)
    if len(sizes) != forest.fields or min(sizes) < 1:
        raise BadSizes("the sizes do not make a box for the forest")


def check_boxed(forest, sizes, record):
    """Raise an error if the box is wrong or the record does not stand in it."""
    check_box(forest, sizes)
    check_record(forest.fields, record)
    for size, value in zip(sizes, record):
        if value < 0 or value >= size:
            raise BadRecord(record)


def from_worst(forest, sizes, record):
    """For each field how many values of the box are worse; and from such numbers the record again."""
    return tuple([
        value if kind == "up" else size - 1 - value
        for kind, size, value in zip(forest.kinds, sizes, record)
    ])


def steps_beneath(forest, sizes, field):
    """The most steps of a run in which only fields beneath the field (or all, for None) change."""
    total = 0
    for child in forest.children(field):
        # Each time a field becomes better, the fields beneath it can begin again with their worst values.
        total = total + sizes[child] - 1 + sizes[child] * steps_beneath(forest, sizes, child)
    return total


def run_steps(forest, sizes):
    """The number of steps of the longest runs."""
    check_box(forest, sizes)
    return steps_beneath(forest, sizes, None)


def next_heights(forest, sizes, heights):
    """The numbers of worse values one step further in a longest run, or None at its end."""
    for field in range(forest.fields):
        beneath = forest.beneath(field)
        low = [other for other in (field,) + beneath if heights[other] < sizes[other] - 1]
        if low == [field]:
            after = list(heights)
            after[field] += 1
            for other in beneath:
                after[other] = 0
            return tuple(after)
    return None


def longest_run(forest, sizes):
    """A run with as many records as any."""
    check_box(forest, sizes)
    run = []
    heights = (0,) * forest.fields
    while heights is not None:
        run.append(from_worst(forest, sizes, heights))
        heights = next_heights(forest, sizes, heights)
    return run


def rank_among(forest, sizes, record):
    """The most steps of a run that ends with a record of the box."""
    heights = from_worst(forest, sizes, record)
    return sum([
        heights[field] * (1 + steps_beneath(forest, sizes, field))
        for field in range(forest.fields)
    ])


def rank_of(forest, sizes, record):
    """The most steps of a run that ends with the record."""
    check_boxed(forest, sizes, record)
    return rank_among(forest, sizes, record)


def changes_left(forest, sizes, record):
    """The most steps of a run that begins with the record."""
    check_boxed(forest, sizes, record)
    return steps_beneath(forest, sizes, None) - rank_among(forest, sizes, record)


def product_of(numbers):
    """The product of the numbers of a list."""
    result = 1
    for number in numbers:
        result = result * number
    return result


def lower_branches(forest, sizes, heights, field):
    """How many ways there are to give the fields beneath the field values that are below those of the heights."""
    count = 1
    for child in forest.children(field):
        # With a worse value in the child, all values beneath it are free.
        worse = heights[child] * product_of([sizes[other] for other in forest.beneath(child)])
        count = count * (worse + lower_branches(forest, sizes, heights, child))
    return count


def count_below(forest, sizes, record):
    """The number of records of the box that are below the record, itself included."""
    check_boxed(forest, sizes, record)
    return lower_branches(forest, sizes, from_worst(forest, sizes, record), None)


def runs_beneath(forest, sizes, field):
    """The number of the longest runs in which only fields beneath the field (or all, for None) change."""
    runs = 1
    steps = 0
    for child in forest.children(field):
        own = sizes[child] - 1 + sizes[child] * steps_beneath(forest, sizes, child)
        steps = steps + own
        # The steps of the children are mixed in any way; at each value of a child the fields beneath it run anew.
        runs = runs * comb(steps, own) * power(runs_beneath(forest, sizes, child), sizes[child])
    return runs


def count_runs(forest, sizes):
    """The number of the longest runs."""
    check_box(forest, sizes)
    return runs_beneath(forest, sizes, None)
