import random
import unittest
from itertools import permutations

from fieldrides.errors import BadRecord, NoRecord
from fieldrides.forests import Forest
from fieldrides.moments import bad_moment, press_moments
from tests.helpers import all_forests, end_in_turn, merged_by_words, random_forest, random_row


class PressMomentsTest(unittest.TestCase):
    def test_the_rows_of_all_moments(self):
        forest = Forest([None, None], ["first", "last"])
        row = [(1, 2), (3, 4), (5, 6)]
        self.assertEqual(press_moments(forest, row), [
            [(1, 2), (3, 4), (5, 6)], [(1, 2), (3, 4), (5, 6), (1, 6)], [(1, 2), (3, 4), (1, 6)], [(1, 2), (1, 6)],
            [(1, 6)],
        ])
        self.assertEqual(press_moments(forest, row, behind=True), press_moments(forest, row))
        self.assertEqual(press_moments(forest, row, behind=False), [
            [(1, 2), (3, 4), (5, 6)], [(1, 6), (1, 2), (3, 4), (5, 6)], [(1, 6), (3, 4), (5, 6)], [(1, 6), (5, 6)],
            [(1, 6)],
        ])

    def test_one_record(self):
        forest = Forest([None], ["down"])
        for behind in (True, False):
            self.assertEqual(press_moments(forest, [(4,)], behind=behind), [[(4,)], [(4,), (4,)], [(4,)]])

    def test_every_moment_has_the_same_end_for_all_records_around_it(self):
        rng = random.Random(1)
        forests = all_forests(2) + [random_forest(rng, rng.randrange(3, 9)) for _ in range(100)]
        for forest in forests:
            row = random_row(rng, forest.fields, rng.randrange(1, 7))
            for behind in (True, False):
                moments = press_moments(forest, row, behind=behind)
                self.assertEqual(len(moments), len(row) + 2)
                for many_before, many_after in ((0, 0), (1, 0), (0, 1), (2, 2)):
                    before = random_row(rng, forest.fields, many_before)
                    after = random_row(rng, forest.fields, many_after)
                    ends = {end_in_turn(forest, before + moment + after) for moment in moments}
                    self.assertEqual(len(ends), 1)

    def test_200_records(self):
        rng = random.Random(2)
        forest = random_forest(rng, 8)
        row = random_row(rng, 8, 200)
        end = end_in_turn(forest, row)
        for behind in (True, False):
            moments = press_moments(forest, row, behind=behind)
            self.assertEqual([len(moment) for moment in moments], [200] + list(range(201, 0, -1)))
            self.assertEqual((moments[0], moments[-1]), (row, [end]))

    def test_each_list_is_a_new_one(self):
        forest = Forest([None], ["up"])
        row = [(1,), (2,)]
        moments = press_moments(forest, row)
        for moment in moments:
            self.assertIsInstance(moment, list)
            moment.append((9,))
        moments.clear()
        self.assertEqual(row, [(1,), (2,)])
        self.assertEqual(press_moments(forest, row), [[(1,), (2,)], [(1,), (2,), (2,)], [(1,), (2,)], [(2,)]])

    def test_wrong_rows(self):
        forest = Forest([None, 0], ["up", "last"])
        for behind in (True, False):
            with self.assertRaises(NoRecord):
                press_moments(forest, [], behind=behind)
            row = [(1, 2), (3,), ()]
            with self.assertRaises(BadRecord) as caught:
                press_moments(forest, row, behind=behind)
            self.assertEqual(caught.exception.record, (3,))
            self.assertEqual(row, [(1, 2), (3,), ()])


class BadMomentTest(unittest.TestCase):
    def check(self, forest, behind):
        found = bad_moment(forest, behind=behind)
        if ("first" if behind else "last") not in forest.kinds:
            self.assertIsNone(found)
            return
        self.assertIsInstance(found, tuple)
        row, left = found
        self.assertIsInstance(row, list)
        self.assertIsInstance(left, list)
        self.assertEqual([len(row), len(left)], [2, 2])
        for record in row:
            self.assertEqual(len(record), forest.fields)
            self.assertLessEqual(set(record), {0, 1})
        end = merged_by_words(forest.parents, forest.kinds, *row)
        self.assertEqual(left, [row[1], end] if behind else [end, row[0]])
        self.assertNotEqual(end_in_turn(forest, row), end_in_turn(forest, left))

    def test_all_forests_of_few_fields(self):
        for fields in (1, 2, 3):
            for forest in all_forests(fields):
                self.check(forest, True)
                self.check(forest, False)

    def test_larger_forests(self):
        rng = random.Random(3)
        for _ in range(100):
            forest = random_forest(rng, rng.randrange(4, 17))
            self.check(forest, True)
            self.check(forest, False)

    def test_behind_is_the_default(self):
        forest = Forest([None], ["first"])
        self.assertEqual(bad_moment(forest), bad_moment(forest, behind=True))
        self.assertIsNotNone(bad_moment(forest))
        self.assertIsNone(bad_moment(forest, behind=False))
        self.assertIsNone(bad_moment(Forest([None], ["last"])))

    def test_without_a_bad_moment_every_order_of_taking_away_is_right(self):
        rng = random.Random(4)
        for forest in all_forests(2):
            for behind in (True, False):
                if bad_moment(forest, behind=behind) is None:
                    row = random_row(rng, 2, 3)
                    end = end_in_turn(forest, row)
                    for order in permutations(range(3)):
                        for many in range(4):
                            left = [row[index] for index in range(3) if index not in order[:many]]
                            moment = left + [end] if behind else [end] + left
                            self.assertEqual(end_in_turn(forest, moment), end)

    def test_each_list_is_a_new_one(self):
        forest = Forest([None, 0], ["up", "first"])
        for part in bad_moment(forest):
            part.clear()
        self.check(forest, True)


if __name__ == "__main__":
    unittest.main()
