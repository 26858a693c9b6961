import random
import unittest
from itertools import combinations, product

from fieldrides.errors import BadPlace, BadRecord, FieldridesError, NoRecord, NotFair
from fieldrides.forests import Forest
from fieldrides.lots import (
    bearers, ends_without, fewest_records, lot_end, mixed_lot, needy_lot, never_mixed, spare_records,
)
from tests.helpers import (
    all_forests, all_records, end_in_any_order, end_in_turn, path_of, random_forest, random_row,
)

PAIR = Forest([None, 0], ["up", "up"])
FAIR = {fields: [forest for forest in all_forests(fields) if forest.fair] for fields in (1, 2, 3)}
CHAIN = Forest([2, None, 1], ["up", "down", "up"])


def along(record, path):
    return tuple([record[field] for field in path])


def bearers_by_words(forest, records, field):
    end, path = end_in_turn(forest, records), path_of(forest.parents, field)
    return tuple([index for index, record in enumerate(records) if along(record, path) == along(end, path)])


class LotEndTest(unittest.TestCase):
    def test_one_record(self):
        self.assertEqual(lot_end(PAIR, [(4, 5)]), (4, 5))
        self.assertEqual(lot_end(Forest([None], ["down"]), [(10 ** 60,)]), (10 ** 60,))

    def test_any_order_and_repetitions(self):
        rng = random.Random(1)
        for forest in FAIR[1] + FAIR[2] + [random_forest(rng, rng.randrange(3, 9), fair=True) for _ in range(200)]:
            lot = random_row(rng, forest.fields, rng.randrange(1, 9), rng.choice((2, 3, 9)))
            before = list(lot)
            end = lot_end(forest, lot)
            self.assertEqual(end, end_in_turn(forest, lot))
            for _ in range(3):
                self.assertEqual(end_in_any_order(rng, forest, lot), end)
            self.assertEqual(lot, before)

    def test_200_records(self):
        rng = random.Random(2)
        for fields in (1, 8, 16):
            forest = random_forest(rng, fields, fair=True)
            lot = random_row(rng, fields, 200)
            self.assertEqual(lot_end(forest, lot), end_in_turn(forest, lot))


class ErrorsOfLotsTest(unittest.TestCase):
    CALLS = (
        lot_end, lambda forest, lot: bearers(forest, lot, 99), fewest_records,
        lambda forest, lot: spare_records(forest, lot, 1), ends_without,
    )

    def test_only_fair_forests(self):
        calls = self.CALLS + (
            lambda forest, lot: needy_lot(forest, 1), lambda forest, lot: mixed_lot(forest, 99, -1),
            lambda forest, lot: never_mixed(forest),
        )
        for call in calls:
            for forest, field in (
                (Forest([None, 0, 0], ["up", "last", "first"]), 1), (Forest([None, None], ["first", "up"]), 0),
                (Forest([1, None], ["last", "down"]), 0),
            ):
                for lot in ([], [(1,)], [(1, 2), (3, 4)]):
                    with self.assertRaises(NotFair) as caught:
                        call(forest, lot)
                    self.assertEqual(caught.exception.field, field)
                    self.assertIsInstance(caught.exception, FieldridesError)

    def test_no_record(self):
        for call in self.CALLS:
            with self.assertRaises(NoRecord) as caught:
                call(PAIR, [])
            self.assertIsInstance(caught.exception, FieldridesError)

    def test_the_first_record_of_a_wrong_length(self):
        for call in self.CALLS:
            for lot, bad in (
                ([(), (1,)], ()), ([(1, 2), (3,), (1, 2, 3)], (3,)), ([(1, 2)] * 4 + [(1, 2, 3)], (1, 2, 3)),
            ):
                before = list(lot)
                with self.assertRaises(BadRecord) as caught:
                    call(PAIR, lot)
                self.assertEqual(caught.exception.record, bad)
                self.assertEqual(lot, before)


class NothingIsChangedTest(unittest.TestCase):
    def test_lots_are_not_changed(self):
        lot = [(2, 1), (0, 5), (2, 3), (2, 3)]
        for call in (
            lambda: bearers(PAIR, lot, 1), lambda: fewest_records(PAIR, lot), lambda: spare_records(PAIR, lot, 2),
            lambda: ends_without(PAIR, lot), lambda: lot_end(PAIR, lot),
        ):
            first = call()
            self.assertEqual(lot, [(2, 1), (0, 5), (2, 3), (2, 3)])
            self.assertEqual(call(), first)
        self.assertEqual((PAIR.parents, PAIR.kinds), ((None, 0), ("up", "up")))


class BearersTest(unittest.TestCase):
    def test_values_of_the_end_along_the_path(self):
        forest = Forest([None, 0, 0], ["up", "down", "up"])
        lot = [(2, 5, 1), (2, 4, 1), (1, 0, 9), (2, 4, 0)]
        self.assertEqual([bearers(forest, lot, field) for field in range(3)], [(0, 1, 3), (1, 3), (0, 1)])

    def test_random_lots(self):
        rng = random.Random(3)
        for _ in range(300):
            forest = random_forest(rng, rng.randrange(1, 9), fair=True)
            lot = random_row(rng, forest.fields, rng.randrange(1, 10), 2)
            for field in range(forest.fields):
                found = bearers(forest, lot, field)
                self.assertEqual(found, bearers_by_words(forest, lot, field))
                self.assertGreaterEqual(len(found), 1)

    def test_no_such_field(self):
        for place in (-1, 2, 10 ** 20):
            with self.assertRaises(BadPlace) as caught:
                bearers(PAIR, [(1, 2)], place)
            self.assertEqual(caught.exception.place, place)
            self.assertIsInstance(caught.exception, FieldridesError)


class FewestRecordsTest(unittest.TestCase):
    def fewest_by_words(self, forest, lot):
        end = end_in_turn(forest, lot)
        for many in range(1, len(lot) + 1):
            for indices in combinations(range(len(lot)), many):
                if end_in_turn(forest, [lot[index] for index in indices]) == end:
                    return indices

    def test_the_example_of_the_document(self):
        forest = Forest([None, 0, 0], ["up", "up", "up"])
        self.assertEqual(fewest_records(forest, [(1, 0, 5), (2, 1, 0), (2, 0, 3)]), (1, 2))

    def test_one_record_and_the_same_record_twice(self):
        self.assertEqual(fewest_records(PAIR, [(1, 2)]), (0,))
        self.assertEqual(fewest_records(PAIR, [(0, 0), (1, 2), (1, 2), (1, 2)]), (1,))

    def test_few_records_are_better_than_low_indices(self):
        roots = Forest([None] * 4, ["up"] * 4)
        self.assertEqual(fewest_records(roots, [(1, 1, 0, 0), (0, 0, 1, 0), (0, 0, 0, 1), (0, 1, 1, 1)]), (0, 3))
        # Each of the first three records bears the most leaves that are left, but two others are enough.
        six = Forest([None] * 6, ["down"] * 6)
        lot = [(0, 0, 1, 0, 0, 1), (1, 1, 0, 1, 1, 1), (1, 1, 1, 1, 1, 0), (0, 0, 0, 1, 1, 1), (1, 1, 1, 0, 0, 0)]
        self.assertEqual(fewest_records(six, lot), (3, 4))

    def test_small_lots(self):
        rng = random.Random(4)
        for _ in range(500):
            forest = random_forest(rng, rng.randrange(1, 9), fair=True)
            lot = random_row(rng, forest.fields, rng.randrange(1, 9), 2)
            found = fewest_records(forest, lot)
            self.assertEqual(found, self.fewest_by_words(forest, lot))
            self.assertLessEqual(len(found), len(forest.leaves))
        for _ in range(150):
            fields = rng.randrange(4, 9)
            forest = Forest([None] * fields, ["up"] * fields)
            lot = random_row(rng, fields, 9, 2)
            self.assertEqual(fewest_records(forest, lot), self.fewest_by_words(forest, lot))

    def test_200_records(self):
        rng = random.Random(5)
        roots = Forest([None] * 8, ["up"] * 8)
        lot = [tuple([int(field == index // 25) for field in range(8)]) for index in range(200)]
        self.assertEqual(fewest_records(roots, lot), tuple(range(0, 200, 25)))
        lot = [tuple([int(rng.random() < 0.4) for _ in range(8)]) for _ in range(200)]
        found = fewest_records(roots, lot)
        self.assertEqual(end_in_turn(roots, [lot[index] for index in found]), (1,) * 8)
        self.assertLessEqual(len(found), 3)


class SpareRecordsTest(unittest.TestCase):
    def spare_by_words(self, forest, lot, losses):
        chosen = set()
        for leaf in range(forest.fields):
            if leaf not in forest.parents:
                path = path_of(forest.parents, leaf)

                def merit(index, path=path):
                    signed = [-lot[index][f] if forest.kinds[f] == "up" else lot[index][f] for f in path]
                    return signed + [index]

                chosen |= set(sorted(range(len(lot)), key=merit)[:losses + 1])
        return tuple(sorted(chosen))

    def test_single_lots(self):
        forest = Forest([None, 0, None], ["up", "down", "down"])
        lot = [(1, 0, 5), (2, 9, 4), (2, 8, 3), (2, 8, 6), (0, 0, 3)]
        self.assertEqual(spare_records(forest, lot, 0), (2,))
        self.assertEqual(spare_records(forest, lot, 1), (2, 3, 4))
        self.assertEqual(spare_records(forest, lot, 2), (1, 2, 3, 4))
        self.assertEqual(spare_records(forest, lot, 3), (0, 1, 2, 3, 4))
        self.assertEqual(spare_records(PAIR, [(1, 1), (1, 1), (1, 1)], 1), (0, 1))

    def test_more_losses_than_records(self):
        for losses in (1, 2, 20):
            self.assertEqual(spare_records(PAIR, [(1, 2)], losses), (0,))
            self.assertEqual(spare_records(PAIR, [(1, 2), (0, 0)], losses), (0, 1))

    def test_random_lots(self):
        rng = random.Random(6)
        for _ in range(300):
            forest = random_forest(rng, rng.randrange(1, 9), fair=True)
            lot = random_row(rng, forest.fields, rng.randrange(1, 25), 3)
            losses = rng.choice((0, 1, 2, 3, 5, 20))
            self.assertEqual(spare_records(forest, lot, losses), self.spare_by_words(forest, lot, losses))
        lot = random_row(rng, 8, 200)
        forest = random_forest(rng, 8, fair=True)
        self.assertEqual(spare_records(forest, lot, 20), self.spare_by_words(forest, lot, 20))

    def test_whichever_records_are_lost(self):
        rng = random.Random(7)
        for _ in range(60):
            forest = random_forest(rng, rng.randrange(1, 6), fair=True)
            lot = random_row(rng, forest.fields, rng.randrange(1, 8), 2)
            for losses in (0, 1, 2, 3):
                chosen = spare_records(forest, lot, losses)
                for many in range(min(losses, len(lot) - 1) + 1):
                    for lost in combinations(range(len(lot)), many):
                        left = [lot[index] for index in range(len(lot)) if index not in lost]
                        held = [lot[index] for index in chosen if index not in lost]
                        self.assertEqual(end_in_turn(forest, held), end_in_turn(forest, left))


class NeedyLotTest(unittest.TestCase):
    def check(self, forest, losses):
        lot = needy_lot(forest, losses)
        leaves = [field for field in range(forest.fields) if field not in forest.parents]
        size = losses + 1
        self.assertIsInstance(lot, list)
        self.assertEqual(len(lot), size * len(leaves))
        for record in lot:
            self.assertIsInstance(record, tuple)
            self.assertEqual(len(record), forest.fields)
        for group, leaf in enumerate(leaves):
            for at in range(size):
                place, behind = group * size + at, (group + 1) * size
                end = end_in_turn(forest, lot[:place + 1] + lot[behind:])
                left = lot[:place] + lot[behind:]
                self.assertTrue(not left or end_in_turn(forest, left)[leaf] != end[leaf])

    def test_all_fair_forests_of_few_fields(self):
        for fields in (1, 2, 3):
            for forest in FAIR[fields]:
                for losses in (0, 1, 2):
                    self.check(forest, losses)

    def test_larger_forests(self):
        rng = random.Random(8)
        for losses in (0, 1, 5, 20):
            for fields in range(4, 9):
                self.check(random_forest(rng, fields, fair=True), losses)
            self.check(Forest([None] + list(range(7)), ["down", "up"] * 4), losses)
            self.check(Forest([None] * 8, ["down", "up"] * 4), losses)

    def test_each_list_is_a_new_one(self):
        needy_lot(PAIR, 1).clear()
        self.check(PAIR, 1)


class EndsWithoutTest(unittest.TestCase):
    def test_without_each_record(self):
        lot = [(1, 5), (2, 6), (2, 7)]
        self.assertEqual(ends_without(PAIR, lot), [(2, 7), (2, 7), (2, 6)])
        self.assertEqual(ends_without(PAIR, [(1, 5), (2, 3)]), [(2, 3), (1, 5)])
        self.assertEqual(ends_without(PAIR, [(1, 5), (1, 5)]), [(1, 5), (1, 5)])

    def test_random_lots(self):
        rng = random.Random(9)
        for _ in range(200):
            forest = random_forest(rng, rng.randrange(1, 9), fair=True)
            lot = random_row(rng, forest.fields, rng.randrange(2, 9))
            before = list(lot)
            found = ends_without(forest, lot)
            self.assertIsInstance(found, list)
            self.assertEqual(found, [end_in_turn(forest, lot[:at] + lot[at + 1:]) for at in range(len(lot))])
            self.assertEqual(lot, before)
            end = end_in_turn(forest, lot)
            for at, field in product(range(len(lot)), range(forest.fields)):
                if found[at][field] != end[field]:
                    self.assertEqual(bearers(forest, lot, field), (at,))

    def test_200_records(self):
        rng = random.Random(10)
        forest = random_forest(rng, 8, fair=True)
        lot = random_row(rng, 8, 200, 50)
        found = ends_without(forest, lot)
        self.assertEqual(len(found), 200)
        for at in (0, 1, 99, 198, 199):
            self.assertEqual(found[at], end_in_turn(forest, lot[:at] + lot[at + 1:]))

    def test_fewer_than_two_records(self):
        for lot in ([], [(1, 2)], [(1,)], [()]):
            with self.assertRaises(NoRecord):
                ends_without(PAIR, lot)

    def test_each_list_is_a_new_one(self):
        lot = [(1, 2), (3, 4)]
        ends_without(PAIR, lot).clear()
        self.assertEqual((lot, ends_without(PAIR, lot)), ([(1, 2), (3, 4)], [(3, 4), (1, 2)]))


class MixedLotTest(unittest.TestCase):
    def check(self, forest, first, second):
        found = mixed_lot(forest, first, second)
        if first in path_of(forest.parents, second) or second in path_of(forest.parents, first):
            self.assertIsNone(found)
            return
        self.assertIsInstance(found, list)
        self.assertEqual(len(found), 2)
        for record in found:
            self.assertIsInstance(record, tuple)
            self.assertEqual(len(record), forest.fields)
            self.assertLessEqual(set(record), {-1, 0, 1})
        both = along(end_in_turn(forest, found), (first, second))
        self.assertNotIn(both, [along(record, (first, second)) for record in found])
        found.clear()
        self.assertIsNotNone(mixed_lot(forest, first, second))

    def test_all_fair_forests_of_few_fields(self):
        for fields in (1, 2, 3):
            for forest in FAIR[fields]:
                for first, second in product(range(fields), repeat=2):
                    self.check(forest, first, second)

    def test_larger_forests(self):
        rng = random.Random(11)
        for _ in range(40):
            forest = random_forest(rng, rng.randrange(4, 9), fair=True)
            for first, second in product(range(forest.fields), repeat=2):
                self.check(forest, first, second)

    def test_one_field_twice(self):
        self.assertIsNone(mixed_lot(Forest([None, None], ["up", "down"]), 1, 1))

    def test_numbers_that_are_no_fields(self):
        for first, second, place in (
            (-1, 0, -1), (0, 2, 2), (2, -1, 2), (0, -1, -1), (9, 9, 9), (1, 10 ** 20, 10 ** 20),
        ):
            with self.assertRaises(BadPlace) as caught:
                mixed_lot(PAIR, first, second)
            self.assertEqual(caught.exception.place, place)
            self.assertIsInstance(caught.exception, FieldridesError)


class NeverMixedTest(unittest.TestCase):
    def test_chains_and_other_forests(self):
        self.assertIs(never_mixed(Forest([None], ["down"])), True)
        self.assertIs(never_mixed(PAIR), True)
        self.assertIs(never_mixed(CHAIN), True)
        self.assertIs(never_mixed(Forest([None, None], ["up", "up"])), False)
        self.assertIs(never_mixed(Forest([None, 0, 0], ["up", "up", "up"])), False)
        self.assertIs(never_mixed(Forest([None, 0, 1, 1], ["up"] * 4)), False)
        self.assertIs(never_mixed(Forest([None] + list(range(7)), ["down"] * 8)), True)

    def test_the_end_of_every_lot_is_one_of_its_records(self):
        for fields in (1, 2):
            records = all_records(fields, (0, 1, 2))
            for forest in FAIR[fields]:
                alone = all(end_in_turn(forest, lot) in lot for lot in product(records, repeat=2))
                self.assertIs(never_mixed(forest), alone)
        for forest in FAIR[3]:
            alone = all(end_in_turn(forest, lot) in lot for lot in combinations(all_records(3, (0, 1)), 2))
            self.assertIs(never_mixed(forest), alone)


if __name__ == "__main__":
    unittest.main()
