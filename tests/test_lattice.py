import random
import unittest

from fieldrides.errors import BadRecord, FieldridesError, ForestsDiffer, NoRecord, NotFair
from fieldrides.forests import Forest
from fieldrides.lattice import Copy, is_below, meet
from fieldrides.stamps import stamp_row, stamped
from tests.helpers import (
    UNFAIR, all_forests, all_records, below_by_words, end_in_turn, merged_by_words, random_forest, random_record,
    random_row,
)

PAIR = Forest([None, 0], ["up", "up"])
FAIR = {fields: [forest for forest in all_forests(fields) if forest.fair] for fields in (1, 2)}


class IsBelowTest(unittest.TestCase):
    def test_single_records(self):
        self.assertIs(is_below(PAIR, (1, 5), (2, 0)), True)
        self.assertIs(is_below(PAIR, (2, 0), (1, 5)), False)
        self.assertIs(is_below(PAIR, (1, 5), (1, 5)), True)
        self.assertIs(is_below(PAIR, (1, 5), (1, 6)), True)
        roots = Forest([None, None], ["up", "down"])
        self.assertIs(is_below(roots, (1, 1), (2, 2)), False)
        self.assertIs(is_below(roots, (2, 2), (1, 1)), False)
        self.assertIs(is_below(roots, (1, 2), (2, 1)), True)

    def test_all_records_of_few_fields(self):
        for fields in (1, 2):
            records = all_records(fields, (0, 1, 2))
            for forest in FAIR[fields]:
                for x in records:
                    for y in records:
                        expected = merged_by_words(forest.parents, forest.kinds, x, y) == y
                        self.assertEqual(below_by_words(forest, x, y), expected)
                        self.assertIs(is_below(forest, x, y), expected)

    def test_random_records(self):
        rng = random.Random(1)
        for _ in range(500):
            forest = random_forest(rng, rng.randrange(1, 9), fair=True)
            x, y = random_row(rng, forest.fields, 2, 2)
            self.assertIs(is_below(forest, x, y), below_by_words(forest, x, y))
            self.assertIs(is_below(forest, x, end_in_turn(forest, [x, y])), True)

    def test_wrong_arguments(self):
        for forest, field in UNFAIR:
            with self.assertRaises(NotFair) as caught:
                is_below(forest, (), ())
            self.assertEqual(caught.exception.field, field)
        for first, second, bad in (((1,), (1, 2, 3), (1,)), ((1, 2), (1, 2, 3), (1, 2, 3)), ((), (), ())):
            with self.assertRaises(BadRecord) as caught:
                is_below(PAIR, first, second)
            self.assertEqual(caught.exception.record, bad)


class MeetTest(unittest.TestCase):
    def test_single_lots(self):
        self.assertEqual(meet(PAIR, [(1, 5), (2, 0)]), (1, 5))
        self.assertEqual(meet(PAIR, [(1, 5), (1, 3), (2, 0)]), (1, 3))
        self.assertEqual(meet(Forest([None, None], ["up", "down"]), [(1, 1), (2, 2)]), (1, 2))
        self.assertEqual(meet(PAIR, [(4, 5)]), (4, 5))

    def test_the_greatest_record_below_all(self):
        rng = random.Random(2)
        records = all_records(2, (0, 1, 2))
        for forest in FAIR[2]:
            for many in (1, 2, 3, 4):
                lot = random_row(rng, 2, many)
                before = list(lot)
                found = meet(forest, lot)
                self.assertEqual(lot, before)
                lower = [record for record in records if all(below_by_words(forest, record, held) for held in lot)]
                self.assertIn(found, lower)
                for record in lower:
                    self.assertTrue(below_by_words(forest, record, found))

    def test_the_end_by_the_turned_forest(self):
        rng = random.Random(3)
        for _ in range(200):
            forest = random_forest(rng, rng.randrange(1, 9), fair=True)
            turned = Forest(forest.parents, [{"up": "down", "down": "up"}[kind] for kind in forest.kinds])
            lot = random_row(rng, forest.fields, rng.randrange(1, 8))
            self.assertEqual(meet(forest, lot), end_in_turn(turned, lot))

    def test_wrong_arguments(self):
        for forest, field in UNFAIR:
            for lot in ([], [()]):
                with self.assertRaises(NotFair) as caught:
                    meet(forest, lot)
                self.assertEqual(caught.exception.field, field)
        with self.assertRaises(NoRecord):
            meet(PAIR, [])
        with self.assertRaises(BadRecord) as caught:
            meet(PAIR, [(1, 2), (1, 2, 3), ()])
        self.assertEqual(caught.exception.record, (1, 2, 3))


class CopyTest(unittest.TestCase):
    def test_attributes(self):
        copy = Copy(PAIR, (1, 2))
        self.assertEqual((copy.forest.parents, copy.forest.kinds, copy.record), (PAIR.parents, PAIR.kinds, (1, 2)))

    def test_ends_and_meets(self):
        first, second = Copy(PAIR, (1, 5)), Copy(PAIR, (2, 0))
        for joined, record in ((first | second, (2, 0)), (second | first, (2, 0)), (first & second, (1, 5)),
                               (second & first, (1, 5)), (first | first, (1, 5)), (first & first, (1, 5))):
            self.assertIsInstance(joined, Copy)
            self.assertEqual((joined.record, joined.forest.parents, joined.forest.kinds),
                             (record, PAIR.parents, PAIR.kinds))
        self.assertEqual((first.record, second.record), ((1, 5), (2, 0)))
        mixed = Forest([None, None], ["up", "down"])
        self.assertEqual((Copy(mixed, (1, 1)) | Copy(mixed, (2, 2))).record, (2, 1))
        self.assertEqual((Copy(mixed, (1, 1)) & Copy(mixed, (2, 2))).record, (1, 2))

    def test_a_new_copy_each_time(self):
        first, second = Copy(PAIR, (1, 5)), Copy(PAIR, (2, 0))
        for joined in (first | second, first & second, first | first, first & first):
            self.assertFalse(any(joined is copy for copy in (first, second)))

    def test_two_forests_with_the_same_parents_and_kinds(self):
        first, second = Copy(PAIR, (1, 5)), Copy(Forest((None, 0), ("up", "up")), (1, 7))
        self.assertEqual(((first | second).record, (first & second).record), ((1, 7), (1, 5)))

    def test_unlike_forests(self):
        copy = Copy(PAIR, (1, 5))
        for other in (
            Forest([None, 0], ["up", "down"]), Forest([None, None], ["up", "up"]), Forest([1, None], ["up", "up"]),
            Forest([None], ["up"]), Forest([None, 0, 1], ["up"] * 3),
        ):
            second = Copy(other, (1,) * other.fields)
            for call in (lambda: copy | second, lambda: second | copy, lambda: copy & second, lambda: second & copy):
                with self.assertRaises(ForestsDiffer) as caught:
                    call()
                self.assertIsInstance(caught.exception, FieldridesError)
            self.assertEqual((copy.record, second.record), ((1, 5), (1,) * other.fields))

    def test_ends_and_meets_distribute(self):
        rng = random.Random(4)
        for _ in range(300):
            forest = random_forest(rng, rng.randrange(1, 9), fair=True)
            a, b, c = [Copy(forest, record) for record in random_row(rng, forest.fields, 3)]
            self.assertEqual((a | b).record, end_in_turn(forest, [a.record, b.record]))
            self.assertEqual((a & (b | c)).record, ((a & b) | (a & c)).record)
            self.assertEqual((a | (b & c)).record, ((a | b) & (a | c)).record)
            self.assertEqual(((a | (a & b)).record, (a & (a | b)).record), (a.record, a.record))

    def test_a_stamped_forest_with_16_fields(self):
        rng = random.Random(5)
        forest = Forest([None] * 7 + list(range(7)), ["up"] * 7 + ["first"] * 4 + ["last"] * 3)
        with self.assertRaises(NotFair):
            Copy(forest, (0,) * 14)
        forest = Forest([None, 0, 0] * 4 + [None] * 2, ["up", "first", "last"] + ["up"] * 11)
        fair = stamped(forest)
        self.assertEqual(fair.fields, 16)
        row = random_row(rng, 14, 6, 2)
        copies = [Copy(fair, record) for record in stamp_row(forest, row)]
        rng.shuffle(copies)
        joined = copies[0]
        for copy in copies[1:]:
            joined = joined | copy
        self.assertEqual(joined.record[:14], end_in_turn(forest, row))

    def test_wrong_arguments(self):
        for forest, field in UNFAIR:
            with self.assertRaises(NotFair) as caught:
                Copy(forest, ())
            self.assertEqual(caught.exception.field, field)
            self.assertIsInstance(caught.exception, FieldridesError)
        for record in ((), (1,), (1, 2, 3), random_record(random.Random(6), 16)):
            with self.assertRaises(BadRecord) as caught:
                Copy(PAIR, record)
            self.assertEqual(caught.exception.record, record)


if __name__ == "__main__":
    unittest.main()
