"""Answers that keep a hidden chain hidden for as long as possible."""

from fieldrides.forests import Forest
from fieldrides.numbers import number_of
from fieldrides.tools import check_record


def orders(listed):
    """All orders of the fields of a list, as a list of lists."""
    if not listed:
        return [[]]
    found = []
    for first in listed:
        rest = [field for field in listed if field != first]
        found.extend([[first] + order for order in orders(rest)])
    return found


def choices_of_kinds(fields):
    """All ways to give each field the kind "up" or "down", as a list of lists."""
    found = [[]]
    for _ in range(fields):
        found = [kinds + [kind] for kinds in found for kind in ("up", "down")]
    return found


def chain_parents(order):
    """The parents of the chain whose path is the order."""
    parents = [None] * len(order)
    for above, field in zip(order, order[1:]):
        parents[field] = above
    return parents


def all_chains(fields):
    """The list of all chains with so many fields, in ascending order of their numbers."""
    shapes = [chain_parents(order) for order in orders(list(range(fields)))]
    chains = [Forest(parents, kinds) for parents in shapes for kinds in choices_of_kinds(fields)]
    return sorted(chains, key=number_of)


class Hider:
    """Answers for a hidden chain that is not chosen until only one is left."""

    def __init__(self, fields):
        self.fields = fields
        self.chains = all_chains(fields)

    def reply(self, older, newer):
        """The record to which more of the remaining chains merge the pair; only these chains remain."""
        check_record(self.fields, older)
        check_record(self.fields, newer)
        for_older = [chain for chain in self.chains if chain(older, newer) == older]
        for_newer = [chain for chain in self.chains if chain(older, newer) != older]
        if len(for_older) >= len(for_newer):
            self.chains = for_older
            return older
        self.chains = for_newer
        return newer

    def remaining(self):
        """The list of the remaining chains in ascending order of their numbers."""
        return list(self.chains)
