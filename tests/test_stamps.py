import random
import unittest

from fieldrides.errors import BadForest, BadRecord, NoRecord
from fieldrides.forests import Forest
from fieldrides.stamps import stamp_row, stamped
from tests.helpers import (
    all_forests, end_in_any_order, end_in_turn, random_forest, random_record, random_row,
)


def classes(forest, kind):
    """The parents of the classes of kind "first" or "last": None first, then ascending."""
    parents = {forest.parents[field] for field in range(forest.fields) if forest.kinds[field] == kind}
    return [parent for parent in [None, *range(forest.fields)] if parent in parents]


class StampedTest(unittest.TestCase):
    def check(self, forest):
        """The stamped forest, word for word after point 41."""
        new = [(parent, kind) for kind in ("first", "last") for parent in classes(forest, kind)]
        parents, kinds = [], []
        for field in range(forest.fields):
            hung = (forest.parents[field], forest.kinds[field])
            parents.append(forest.fields + new.index(hung) if hung in new else forest.parents[field])
            kinds.append("up" if hung in new else forest.kinds[field])
        parents += [parent for parent, _ in new]
        kinds += [{"first": "down", "last": "up"}[kind] for _, kind in new]
        if len(parents) > 16:
            with self.assertRaises(BadForest) as caught:
                stamped(forest)
            self.assertIsNone(caught.exception.field)
            return
        found = stamped(forest)
        self.assertEqual((found.parents, found.kinds), (tuple(parents), tuple(kinds)))
        self.assertTrue(found.fair)

    def test_classes_of_both_kinds_with_and_without_a_parent(self):
        forest = Forest([None, 0, 1, 1, 0, 0, None, None, None],
                        ["up", "down", "first", "last", "first", "first", "last", "last", "first"])
        found = stamped(forest)
        self.assertEqual(found.parents, (None, 0, 11, 13, 10, 10, 12, 12, 9, None, 0, 1, None, 1))
        self.assertEqual(found.kinds, ("up", "down") + ("up",) * 7 + ("down", "down", "down", "up", "up"))
        self.check(forest)

    def test_1_field(self):
        for kind, parents, kinds in (
            ("up", (None,), ("up",)), ("down", (None,), ("down",)), ("first", (1, None), ("up", "down")),
            ("last", (1, None), ("up", "up")),
        ):
            found = stamped(Forest([None], [kind]))
            self.assertEqual((found.parents, found.kinds), (parents, kinds))

    def test_all_forests_of_few_fields(self):
        for fields in (1, 2, 3):
            for forest in all_forests(fields):
                self.check(forest)

    def test_random_forests_up_to_16_fields(self):
        rng = random.Random(1)
        for _ in range(400):
            self.check(random_forest(rng, rng.randrange(4, 17)))

    def test_more_than_16_fields(self):
        for parents, kinds in (
            ([None] * 16, ["up"] * 15 + ["first"]), ([None] * 15, ["up"] * 13 + ["first", "last"]),
            ([None] * 8 + list(range(8)), ["up"] * 8 + ["last"] * 8),
        ):
            forest = Forest(parents, kinds)
            with self.assertRaises(BadForest) as caught:
                stamped(forest)
            self.assertIsNone(caught.exception.field)
            self.assertEqual((forest.parents, forest.kinds), (tuple(parents), tuple(kinds)))

    def test_exactly_16_fields(self):
        self.assertEqual(stamped(Forest([None] * 15, ["first"] * 15)).parents, (15,) * 15 + (None,))
        self.assertEqual(stamped(Forest([None] * 14, ["first"] * 7 + ["last"] * 7)).fields, 16)
        self.assertEqual(stamped(Forest([None] * 16, ["up"] * 16)).fields, 16)


class StampRowTest(unittest.TestCase):
    def test_the_index_stands_in_every_new_field(self):
        forest = Forest([None, 0, 0], ["up", "first", "last"])
        self.assertEqual(stamp_row(forest, [(4, 5, 6), (7, 8, 9), (4, 5, 6)]),
                         [(4, 5, 6, 0, 0), (7, 8, 9, 1, 1), (4, 5, 6, 2, 2)])
        self.assertEqual(stamp_row(Forest([None, None], ["last", "last"]), [(1, 2), (3, 4)]), [(1, 2, 0), (3, 4, 1)])

    def test_a_fair_forest_has_no_new_field(self):
        row = [(1, 2), (3, 4)]
        found = stamp_row(Forest([None, 0], ["up", "down"]), row)
        self.assertEqual(found, row)
        found.clear()
        self.assertEqual(row, [(1, 2), (3, 4)])

    def test_in_any_order_and_with_repetitions(self):
        rng = random.Random(2)
        forests = all_forests(2) + [random_forest(rng, rng.randrange(3, 9)) for _ in range(200)]
        for forest in forests:
            row = random_row(rng, forest.fields, rng.randrange(1, 8))
            row += rng.choices(row, k=2)
            end = end_in_turn(forest, row)
            fair = stamped(forest)
            longer = stamp_row(forest, row)
            self.assertEqual([record[:forest.fields] for record in longer], row)
            for _ in range(4):
                self.assertEqual(end_in_any_order(rng, fair, longer)[:forest.fields], end)

    def test_200_records(self):
        rng = random.Random(3)
        forest = Forest([None, 0, 0, 0], ["down", "first", "last", "last"])
        row = random_row(rng, 4, 200)
        longer = stamp_row(forest, row)
        self.assertEqual([record[4:] for record in longer], [(index, index) for index in range(200)])
        self.assertEqual(end_in_any_order(rng, stamped(forest), longer)[:4], end_in_turn(forest, row))

    def test_wrong_rows(self):
        forest = Forest([None, 0], ["up", "last"])
        with self.assertRaises(NoRecord):
            stamp_row(forest, [])
        for row, bad in (([(1,), (1, 2, 3)], (1,)), ([(1, 2), random_record(random.Random(4), 3)], None)):
            before = list(row)
            with self.assertRaises(BadRecord) as caught:
                stamp_row(forest, row)
            self.assertEqual(caught.exception.record, row[-1] if bad is None else bad)
            self.assertEqual(row, before)


if __name__ == "__main__":
    unittest.main()
