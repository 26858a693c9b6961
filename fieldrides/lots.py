"""Lots: records whose order does not matter, merged by a fair forest."""

from fieldrides.bearing import end_along, kept_along
from fieldrides.errors import NoRecord
from fieldrides.forests import check_fair, zeros_raised
from fieldrides.tools import check_place, check_records, raised, with_value, without


def check_lot(forest, records):
    """Raise an error if the forest is not fair or the records are no lot for it."""
    check_fair(forest)
    check_records(forest.fields, records)


def lot_end(forest, records):
    """The record with which all ways of merging the lot end."""
    check_lot(forest, records)
    return end_along(forest, records)


def bearers(forest, records, field):
    """The indices of the records that have the values of the end along the path of the field."""
    check_lot(forest, records)
    check_place(forest.fields, field)
    return tuple(kept_along(forest, records)[field])


def borne_leaves(forest, records):
    """For each record the leaves that it bears, as a mask with a bit for each leaf."""
    kept = kept_along(forest, records)
    masks = [0] * len(records)
    for at, leaf in enumerate(forest.leaves):
        for index in kept[leaf]:
            masks[index] += 1 << at
    return masks


def fewest_covers(masks, whole):
    """For each k a list: how many of the masks from k on are needed at least to cover each mask up to the whole."""
    # One more than all masks stands for what they do not cover.
    covers = [[0] + [len(masks) + 1] * whole]
    for mask in reversed(masks):
        behind = covers[-1]
        covers.append([min(behind[left], 1 + behind[left - (left & mask)]) for left in range(whole + 1)])
    return covers[::-1]


def fewest_records(forest, records):
    """The least tuple of as few indices as possible, of records that alone have the end of the lot."""
    check_lot(forest, records)
    # Records have the end of the lot exactly if each leaf is borne by one of them.
    masks = borne_leaves(forest, records)
    left = (1 << len(forest.leaves)) - 1
    covers = fewest_covers(masks, left)
    chosen = []
    for index, mask in enumerate(masks):
        after = left - (left & mask)
        # The least tuple takes each record with which no more records are needed than without it.
        if 1 + covers[index + 1][after] == covers[index][left]:
            chosen.append(index)
            left = after
    return tuple(chosen)


def best_first(forest, records, leaf):
    """The list of all indices, the records with better values along the path of the leaf first."""
    # 0 raised by the negative of a value is the less, the better the value is.
    path = forest.path(leaf)
    ranked = []
    for index, record in enumerate(records):
        ranked.append((tuple([raised(forest.kinds[field], 0, -record[field]) for field in path]), index))
    return [index for _, index in sorted(ranked)]


def spare_records(forest, records, losses):
    """The indices of the records that are enough even if so many records of the lot are lost."""
    check_lot(forest, records)
    chosen = []
    for leaf in forest.leaves:
        chosen.extend(best_first(forest, records, leaf)[:losses + 1])
    return tuple(sorted(set(chosen)))


def needy_lot(forest, losses):
    """A lot with a group of losses + 1 records for each leaf, which shows that so many can be needed."""
    check_fair(forest)
    lot = []
    for leaf in forest.leaves:
        best = zeros_raised(forest, forest.path(leaf))
        for by in range(1, losses + 2):
            lot.append(with_value(best, leaf, raised(forest.kinds[leaf], 0, by)))
    return lot


def ends_without(forest, records):
    """The list of the ends of the lot without its first record, without its second, and so on."""
    check_fair(forest)
    if len(records) < 2:
        raise NoRecord("without one of the records there is none")
    check_records(forest.fields, records)
    return [end_along(forest, without(records, index)) for index in range(len(records))]


def mixed_lot(forest, first, second):
    """Two records whose end has in the two fields together the values of neither, or None if there is no such lot."""
    check_fair(forest)
    check_place(forest.fields, first)
    check_place(forest.fields, second)
    if first in forest.path(second) or second in forest.path(first):
        return None
    return [zeros_raised(forest, (first,)), zeros_raised(forest, (second,))]


def never_mixed(forest):
    """True if the end of every lot is one of its records."""
    check_fair(forest)
    return len(forest.leaves) == 1
