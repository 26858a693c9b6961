import random
import unittest
from itertools import combinations

from fieldrides.errors import BadPlace, BadRecord, FieldridesError, NoRecord
from fieldrides.forests import Forest
from fieldrides.rows import can_strike, class_count, keepers, needy_row, row_end
from tests.helpers import (
    all_forests, all_records, end_in_turn, end_of_neighbours, random_forest, random_record, random_row,
)

# Two leaves of kind first and one last on no parent, both on field 0, and a leaf "up" that is no parent.
MIXED = Forest([None, None, None, None, 0, 0, 0, 0], ["up", "first", "first", "last", "last", "first", "down", "last"])


def classes_by_words(forest):
    """The bearer classes, word for word after point 38."""
    leaves = [field for field in range(forest.fields) if field not in forest.parents]
    found = {leaf if forest.kinds[leaf] in ("up", "down") else (forest.parents[leaf], forest.kinds[leaf])
             for leaf in leaves}
    return len(found)


class RowEndTest(unittest.TestCase):
    def test_single_fields(self):
        row = [(2,), (5,), (1,), (4,)]
        self.assertEqual([row_end(Forest([None], [kind]), row) for kind in ("up", "down", "first", "last")],
                         [(5,), (1,), (2,), (4,)])

    def test_leaves_are_taken_from_the_records_kept_above_them(self):
        forest = Forest([None, 0, 0, None], ["up", "first", "last", "last"])
        row = [(1, 9, 9, 4), (2, 7, 5, 3), (2, 8, 6, 2), (0, 1, 1, 1)]
        self.assertEqual(row_end(forest, row), (2, 7, 6, 1))

    def test_one_record(self):
        rng = random.Random(1)
        for fields in (1, 2, 8, 16):
            record = random_record(rng, fields, 9)
            self.assertEqual(row_end(random_forest(rng, fields), [record]), record)

    def test_all_forests_with_2_fields(self):
        rng = random.Random(2)
        for forest in all_forests(2):
            for many in (2, 3, 4):
                for _ in range(12):
                    row = random_row(rng, 2, many)
                    self.assertEqual(row_end(forest, row), end_in_turn(forest, row))

    def test_all_ways_of_merging_neighbours(self):
        rng = random.Random(3)
        for _ in range(300):
            forest = random_forest(rng, rng.randrange(1, 9))
            row = random_row(rng, forest.fields, rng.randrange(1, 12), rng.choice((2, 3, 6)))
            self.assertEqual(row_end(forest, row), end_in_turn(forest, row))
            self.assertEqual(row_end(forest, row), end_of_neighbours(rng, forest, row))

    def test_200_records_and_16_fields(self):
        rng = random.Random(4)
        for fields in (1, 8, 16):
            for _ in range(5):
                forest = random_forest(rng, fields)
                row = random_row(rng, fields, 200)
                self.assertEqual(row_end(forest, row), end_in_turn(forest, row))

    def test_records_that_stand_twice_in_a_row(self):
        forest = Forest([None, 0, None], ["up", "last", "first"])
        row = [(1, 2, 3), (0, 5, 6), (1, 4, 5), (1, 2, 3), (1, 4, 5), (0, 5, 6)]
        self.assertEqual(row_end(forest, row), (1, 4, 3))

    def test_numbers_with_60_digits(self):
        big = 10 ** 60 - 1
        self.assertEqual(row_end(Forest([None, 0], ["down", "up"]), [(-big + 1, 9), (-big, 3), (-big, 2)]), (-big, 3))

    def test_the_row_is_not_changed(self):
        forest = Forest([None, 0], ["up", "last"])
        row = [(1, 2), (3, 4), (3, 5)]
        for call in (
            lambda: row_end(forest, row), lambda: keepers(forest, row), lambda: can_strike(forest, row, 1),
        ):
            first = call()
            self.assertEqual(row, [(1, 2), (3, 4), (3, 5)])
            self.assertEqual(call(), first)


class ErrorsOfRowsTest(unittest.TestCase):
    CALLS = (row_end, keepers, lambda forest, row: can_strike(forest, row, 0),
             lambda forest, row: can_strike(forest, row, 99))

    def test_no_record(self):
        for call in self.CALLS:
            with self.assertRaises(NoRecord) as caught:
                call(Forest([None, 0], ["up", "first"]), [])
            self.assertIsInstance(caught.exception, FieldridesError)

    def test_the_first_record_of_a_wrong_length(self):
        forest = Forest([None, 0], ["up", "first"])
        for call in self.CALLS:
            for row, bad in (([()], ()), ([(1, 2), (3,), (1, 2, 3)], (3,)), ([(1, 2, 3), (1,)], (1, 2, 3)),
                             ([(1, 2)] * 5 + [(7,)], (7,))):
                before = list(row)
                with self.assertRaises(BadRecord) as caught:
                    call(forest, row)
                self.assertEqual(caught.exception.record, bad)
                self.assertEqual(row, before)


class ClassCountTest(unittest.TestCase):
    def test_single_forests(self):
        # field 6; first and last on no parent; first and last on field 0
        self.assertEqual(class_count(MIXED), 5)
        for kind in ("up", "down", "first", "last"):
            self.assertEqual(class_count(Forest([None], [kind])), 1)
        self.assertEqual(class_count(Forest([None] * 16, ["up"] * 16)), 16)
        self.assertEqual(class_count(Forest([None] * 16, ["first"] * 16)), 1)
        self.assertEqual(class_count(Forest([None] * 3, ["first", "last", "first"])), 2)
        self.assertEqual(class_count(Forest([None, 0, 0, None], ["up", "first", "last", "last"])), 3)
        self.assertEqual(class_count(Forest([None, 0, 1], ["up", "down", "up"])), 1)
        self.assertEqual(class_count(Forest([None, None, 0, 1], ["up", "up", "first", "first"])), 2)

    def test_all_forests_with_3_fields(self):
        for forest in all_forests(3):
            self.assertEqual(class_count(forest), classes_by_words(forest))


class KeepersTest(unittest.TestCase):
    def check(self, forest, row):
        chosen = keepers(forest, row)
        self.assertIsInstance(chosen, tuple)
        self.assertEqual(list(chosen), sorted(set(chosen)))
        self.assertLessEqual(len(chosen), classes_by_words(forest))
        self.assertGreaterEqual(len(chosen), 1)
        self.assertTrue(0 <= chosen[0] and chosen[-1] < len(row))
        self.assertEqual(end_in_turn(forest, [row[index] for index in chosen]), end_in_turn(forest, row))

    def test_one_record(self):
        self.assertEqual(keepers(MIXED, [(1,) * 8]), (0,))

    def test_all_forests_with_2_fields(self):
        rng = random.Random(5)
        for forest in all_forests(2):
            for _ in range(20):
                self.check(forest, random_row(rng, 2, rng.randrange(1, 6)))

    def test_random_rows(self):
        rng = random.Random(6)
        for _ in range(500):
            forest = random_forest(rng, rng.randrange(1, 9))
            self.check(forest, random_row(rng, forest.fields, rng.randrange(1, 15), rng.choice((2, 3, 9))))
        for _ in range(50):
            self.check(MIXED, random_row(rng, 8, 12, 2))
        self.check(random_forest(rng, 16), random_row(rng, 16, 200))

    def test_the_only_choice(self):
        forest = Forest([None, 0, 0], ["up", "first", "last"])
        self.assertEqual(keepers(forest, [(0, 1, 1), (1, 2, 2), (1, 3, 3), (1, 4, 4), (0, 5, 5)]), (1, 3))


class NeedyRowTest(unittest.TestCase):
    def check(self, forest):
        row = needy_row(forest)
        self.assertIsInstance(row, list)
        self.assertEqual(len(row), classes_by_words(forest))
        for record in row:
            self.assertIsInstance(record, tuple)
            self.assertEqual(len(record), forest.fields)
            self.assertLessEqual(set(record), {-1, 0, 1})
        end = end_in_turn(forest, row)
        for index in range(len(row)):
            others = row[:index] + row[index + 1:]
            self.assertTrue(not others or end_in_turn(forest, others) != end)

    def test_all_forests_of_few_fields(self):
        for fields in (1, 2, 3):
            for forest in all_forests(fields):
                self.check(forest)

    def test_larger_forests(self):
        rng = random.Random(7)
        self.check(MIXED)
        for fields in range(4, 17):
            for _ in range(40):
                self.check(random_forest(rng, fields))

    def test_leaves_of_kind_first_and_last_along_one_path(self):
        parents = [None, 0, 1, None, None, 0, 0, 1, 1, 2, 2, 2]
        kinds = ["down", "up", "down"] + ["first", "last"] * 4 + ["up"]
        self.check(Forest(parents, kinds))
        self.check(Forest(parents[:-1], kinds[:-1]))

    def test_each_list_is_a_new_one(self):
        needy_row(MIXED).clear()
        self.check(MIXED)


class CanStrikeTest(unittest.TestCase):
    def test_a_single_record(self):
        for kind in ("up", "down", "first", "last"):
            self.assertIs(can_strike(Forest([None], [kind]), [(0,)], 0), False)

    def test_records_that_matter_or_not(self):
        forest = Forest([None, 0], ["up", "last"])
        row = [(1, 5), (2, 6), (2, 7), (0, 9)]
        self.assertEqual([can_strike(forest, row, index) for index in range(4)], [True, True, False, True])
        self.assertIs(can_strike(forest, [(1, 5), (1, 5)], 0), True)
        self.assertIs(can_strike(forest, [(1, 5), (1, 5)], 1), True)
        self.assertIs(can_strike(Forest([None], ["first"]), [(1,), (1,), (2,)], 0), True)
        self.assertIs(can_strike(Forest([None], ["first"]), [(1,), (2,), (2,)], 0), False)

    def test_whatever_stands_around_the_row(self):
        rng = random.Random(8)
        for forest in all_forests(2):
            # Row values are 0 and 1, so better, equal and worse ones stand around them.
            records = all_records(2, (-1, 0, 2))
            for many in (1, 2, 3, 3):
                row = random_row(rng, 2, many, 2)
                for index in range(many):
                    others = row[:index] + row[index + 1:]
                    around = [([], [])] if others else []
                    around += [([x], []) for x in records] + [([], [x]) for x in records]
                    around += [([x], [y]) for x, y in combinations(records, 2)]
                    alike = all(
                        end_in_turn(forest, before + row + after) == end_in_turn(forest, before + others + after)
                        for before, after in around
                    )
                    self.assertIs(can_strike(forest, row, index), alike)

    def test_no_such_record(self):
        forest = Forest([None], ["up"])
        row = [(1,), (2,)]
        for place in (-1, -2, 2, 10 ** 20):
            with self.assertRaises(BadPlace) as caught:
                can_strike(forest, row, place)
            self.assertEqual(caught.exception.place, place)
            self.assertIsInstance(caught.exception, FieldridesError)
        with self.assertRaises(BadPlace):
            can_strike(forest, [(1,)], 1)
        self.assertEqual(row, [(1,), (2,)])


if __name__ == "__main__":
    unittest.main()
