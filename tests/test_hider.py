import random
import unittest
from itertools import permutations, product
from math import factorial

from fieldrides.errors import BadRecord
from fieldrides.hider import Hider
from fieldrides.numbers import number_of
from tests.helpers import all_records, merged_by_words, random_record


def all_chains(fields):
    """The parents and kinds of all chains."""
    found = set()
    for order in permutations(range(fields)):
        parents = [None] * fields
        for above, field in zip(order, order[1:]):
            parents[field] = above
        for kinds in product(("up", "down"), repeat=fields):
            found.add((tuple(parents), kinds))
    return found


def seen(hider):
    return [(forest.parents, forest.kinds) for forest in hider.remaining()]


class HiderTest(unittest.TestCase):
    def test_it_begins_with_all_chains(self):
        for fields in range(1, 5):
            hider = Hider(fields)
            self.assertEqual(len(hider.remaining()), factorial(fields) * 2 ** fields)
            self.assertEqual(set(seen(hider)), all_chains(fields))
            numbers = [number_of(forest) for forest in hider.remaining()]
            self.assertEqual(numbers, sorted(set(numbers)))

    def test_1_field(self):
        hider = Hider(1)
        self.assertEqual(seen(hider), [((None,), ("up",)), ((None,), ("down",))])
        # Both answers keep one chain, so the older record is returned.
        self.assertEqual(hider.reply((0,), (1,)), (0,))
        self.assertEqual(seen(hider), [((None,), ("down",))])
        self.assertEqual(hider.reply((5,), (4,)), (4,))
        self.assertEqual(hider.reply((4,), (5,)), (4,))
        self.assertEqual(seen(hider), [((None,), ("down",))])

    def test_the_older_record_if_both_have_equally_many(self):
        for older, newer in (((0, 0), (1, 1)), ((0, 0), (1, 0)), ((1, 0), (0, 0)), ((3, 1), (2, 9))):
            hider = Hider(2)
            self.assertEqual(hider.reply(older, newer), older)
            self.assertEqual(len(hider.remaining()), 4)

    def test_the_record_to_which_more_chains_merge(self):
        hider = Hider(2)
        hider.reply((0, 0), (1, 0))
        # The chains that are left have field 0 down; field 1 alone says newer for two of the four.
        self.assertEqual(len(hider.remaining()), 4)
        self.assertEqual(hider.reply((1, 0), (0, 1)), (0, 1))
        self.assertEqual(len(hider.remaining()), 3)
        self.assertEqual(set(seen(hider)), {
            ((None, 0), ("down", "up")), ((None, 0), ("down", "down")), ((1, None), ("down", "up")),
        })

    def test_random_questions(self):
        rng = random.Random(1)
        for fields in range(1, 5):
            for _ in range(12):
                hider = Hider(fields)
                left = seen(hider)
                asked = []
                for count in range(1, 12):
                    pair = random_record(rng, fields), random_record(rng, fields)
                    for_older = [chain for chain in left if merged_by_words(*chain, *pair) == pair[0]]
                    for_newer = [chain for chain in left if chain not in for_older]
                    reply = hider.reply(*pair)
                    if len(for_older) >= len(for_newer):
                        self.assertEqual((reply, seen(hider)), (pair[0], for_older))
                    else:
                        self.assertEqual((reply, seen(hider)), (pair[1], for_newer))
                    left = seen(hider)
                    asked.append((pair, reply))
                    self.assertGreaterEqual(len(left) * 2 ** count, factorial(fields) * 2 ** fields)
                for forest in hider.remaining():
                    for pair, reply in asked:
                        self.assertEqual(forest(*pair), reply)

    def test_the_same_pair_twice_and_in_the_other_order(self):
        hider = Hider(3)
        first = hider.reply((0, 1, 2), (2, 1, 0))
        left = seen(hider)
        for pair in (((0, 1, 2), (2, 1, 0)), ((2, 1, 0), (0, 1, 2))):
            self.assertEqual(hider.reply(*pair), first)
            self.assertEqual(seen(hider), left)

    def test_equal_records_tell_nothing(self):
        for fields in (1, 2, 3):
            hider = Hider(fields)
            for record in all_records(fields, (0, 5)):
                self.assertEqual(hider.reply(record, record), record)
            self.assertEqual(len(hider.remaining()), factorial(fields) * 2 ** fields)

    def test_records_of_a_wrong_length(self):
        hider = Hider(2)
        before = seen(hider)
        for older, newer, bad in (
            ((1,), (1, 2), (1,)), ((1, 2), (1, 2, 3), (1, 2, 3)), ((), (1,), ()), ((1, 2), (), ()),
        ):
            with self.assertRaises(BadRecord) as caught:
                hider.reply(older, newer)
            self.assertEqual(caught.exception.record, bad)
        self.assertEqual(seen(hider), before)

    def test_each_list_is_a_new_one(self):
        hider = Hider(2)
        listed = hider.remaining()
        listed.clear()
        self.assertEqual(len(hider.remaining()), 8)
        hider.reply((0, 0), (1, 1))
        hider.remaining().append(None)
        self.assertEqual(len(hider.remaining()), 4)


if __name__ == "__main__":
    unittest.main()
