import random
import unittest
from itertools import product

from fieldrides.errors import BadPlace, BadRecord, FieldridesError, NotFair
from fieldrides.firm import firm_fields, moving_letter
from fieldrides.forests import Forest
from tests.helpers import (
    UNFAIR, all_forests, all_records, merged_by_words, path_of, random_forest, random_record,
)

PAIR = Forest([None, 0], ["up", "down"])
FAIR = {fields: [forest for forest in all_forests(fields) if forest.fair] for fields in (1, 2, 3)}


def merged(forest, x, y):
    return merged_by_words(forest.parents, forest.kinds, x, y)


def is_within(forest, letter, bound):
    """Whether the letter is in no field better than the bound."""
    steps = zip(forest.kinds, letter, bound)
    return not any(value > most if kind == "up" else value < most for kind, value, most in steps)


class FirmFieldsTest(unittest.TestCase):
    def test_single_copies(self):
        for copy, bound, firm in (
            ((5, 5), (5, 5), (0, 1)), ((6, 5), (5, 0), (0, 1)), ((4, 5), (5, 9), ()), ((5, 5), (5, 4), (0,)),
            ((5, 5), (5, 6), (0, 1)), ((5, 5), (6, 5), ()),
        ):
            self.assertEqual(firm_fields(PAIR, copy, bound), firm)
        roots = Forest([None] * 4, ["up", "up", "down", "down"])
        self.assertEqual(firm_fields(roots, (1, 2, 1, 2), (2, 1, 2, 1)), (1, 2))

    def test_all_fields_and_none(self):
        for forest in FAIR[1] + FAIR[2] + FAIR[3]:
            zeros = (0,) * forest.fields
            better = tuple(1 if kind == "up" else -1 for kind in forest.kinds)
            self.assertEqual(firm_fields(forest, zeros, zeros), tuple(range(forest.fields)))
            self.assertEqual(firm_fields(forest, better, zeros), tuple(range(forest.fields)))
            self.assertEqual(firm_fields(forest, zeros, better), ())

    def check(self, forest, copy, bound, letters):
        firm = firm_fields(forest, copy, bound)
        moved = set()
        for letter in letters:
            after = merged(forest, copy, letter)
            moved |= {field for field in range(forest.fields) if after[field] != copy[field]}
            self.assertLessEqual(set(firm), set(firm_fields(forest, after, bound)))
        self.assertEqual(moved & set(firm), set())
        for field in range(forest.fields):
            letter = moving_letter(forest, copy, bound, field)
            if field in firm:
                self.assertIsNone(letter)
                self.assertLessEqual(set(path_of(forest.parents, field)), set(firm))
                continue
            self.assertIsInstance(letter, tuple)
            self.assertEqual(len(letter), forest.fields)
            self.assertTrue(is_within(forest, letter, bound))
            self.assertNotEqual(merged(forest, copy, letter)[field], copy[field])

    def test_all_small_records(self):
        for fields, values in ((1, (0, 1, 2)), (2, (0, 1, 2)), (3, (0, 1))):
            records = all_records(fields, values)
            for forest in FAIR[fields]:
                within = {bound: [x for x in records if is_within(forest, x, bound)] for bound in records}
                for copy, bound in product(records, repeat=2):
                    self.check(forest, copy, bound, within[bound])

    def test_random_records(self):
        rng = random.Random(1)
        for _ in range(600):
            forest = random_forest(rng, rng.randrange(3, 9), fair=True)
            copy, bound = random_record(rng, forest.fields), random_record(rng, forest.fields)
            signs = [-1 if kind == "up" else 1 for kind in forest.kinds]
            letters = [tuple(v + sign * rng.randrange(3) for v, sign in zip(bound, signs)) for _ in range(8)]
            self.check(forest, copy, bound, letters)


class WrongArgumentsTest(unittest.TestCase):
    CALLS = (firm_fields, lambda forest, copy, bound: moving_letter(forest, copy, bound, 99))

    def test_only_fair_forests(self):
        for forest, field in UNFAIR:
            for call in self.CALLS:
                with self.assertRaises(NotFair) as caught:
                    call(forest, (), (1,))
                self.assertEqual(caught.exception.field, field)
                self.assertIsInstance(caught.exception, FieldridesError)

    def test_the_first_record_of_a_wrong_length(self):
        for copy, bound, bad in (
            ((1,), (1, 2), (1,)), ((1, 2, 3), (), (1, 2, 3)), ((1, 2), (1,), (1,)), ((1, 2), (), ()),
        ):
            for call in self.CALLS:
                with self.assertRaises(BadRecord) as caught:
                    call(PAIR, copy, bound)
                self.assertEqual(caught.exception.record, bad)

    def test_fields_that_are_none(self):
        for field in (-1, 2, 10 ** 20):
            for bound in ((1, 2), (0, 0), (5, 5)):
                with self.assertRaises(BadPlace) as caught:
                    moving_letter(PAIR, (1, 2), bound, field)
                self.assertEqual(caught.exception.place, field)
                self.assertIsInstance(caught.exception, FieldridesError)


if __name__ == "__main__":
    unittest.main()
