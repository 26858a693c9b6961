import random
import unittest

from fieldrides.books import Book
from fieldrides.errors import BadForest, BadPlace, BadRecord, FieldridesError
from fieldrides.forests import Forest, book_of, first_unlike, mirror_forest, turned_forest
from tests.helpers import all_forests, all_records, merged_by_words, random_forest

KINDS = ("up", "down", "first", "last")
UP = (0, "newer", "older", "older")


class ForestTest(unittest.TestCase):
    def expect_bad(self, parents, kinds, field):
        with self.assertRaises(BadForest) as caught:
            Forest(parents, kinds)
        self.assertEqual(caught.exception.field, field)
        self.assertIsInstance(caught.exception, FieldridesError)

    def test_attributes_and_ways(self):
        forest = Forest([2, 2, None, 0, None], ["up", "first", "down", "last", "last"])
        self.assertEqual((forest.fields, forest.parents), (5, (2, 2, None, 0, None)))
        self.assertEqual(forest.kinds, ("up", "first", "down", "last", "last"))
        self.assertEqual((forest.roots, forest.leaves, forest.fair), ((2, 4), (1, 3, 4), False))
        self.assertEqual([forest.path(field) for field in range(5)], [(2, 0), (2, 1), (2,), (2, 0, 3), (4,)])
        self.assertEqual(forest.word(3), ((2, "down"), (0, "up"), (3, "last")))
        self.assertEqual(forest.word(4), ((4, "last"),))
        self.assertEqual([forest.children(field) for field in range(5)], [(3,), (), (0, 1), (), ()])
        self.assertEqual(forest.children(None), (2, 4))
        self.assertEqual([forest.beneath(field) for field in range(5)], [(3,), (), (0, 1, 3), (), ()])

    def test_fair_forests(self):
        self.assertIs(Forest([None, 0], ["up", "down"]).fair, True)
        self.assertIs(Forest([None, 0], ["up", "first"]).fair, False)
        self.assertIs(Forest([None], ["last"]).fair, False)

    def test_given_lists_are_neither_changed_nor_kept(self):
        parents, kinds = [None, 0], ["up", "last"]
        forest = Forest(parents, kinds)
        self.assertEqual((parents, kinds), ([None, 0], ["up", "last"]))
        parents[1] = None
        kinds.append("up")
        self.assertEqual((forest.parents, forest.kinds, forest.roots), ((None, 0), ("up", "last"), (0,)))

    def test_wrong_numbers_of_entries(self):
        self.expect_bad([], [], None)
        self.expect_bad((), (), None)
        self.expect_bad([None], [], None)
        self.expect_bad([None], ["up", "up"], None)
        self.expect_bad([None] * 17, ["up"] * 17, None)
        self.expect_bad([5], ["up", "up"], None)
        self.assertEqual(Forest([None] * 16, ["last"] * 16).roots, tuple(range(16)))
        self.assertEqual(Forest([None] + list(range(15)), ["up"] * 16).path(15), tuple(range(16)))

    def test_parents_that_are_no_fields(self):
        self.expect_bad([1], ["up"], 0)
        self.expect_bad([None, -1], ["up", "up"], 1)
        self.expect_bad([None, -1, None], ["up", "up", "up"], 1)
        self.expect_bad([None, -2, None], ["up", "first", "last"], 1)
        self.expect_bad([None, 3, 4], ["up", "up", "up"], 1)
        self.expect_bad([0, 9], ["up", "up"], 1)

    def test_ways_that_never_end(self):
        self.expect_bad([0], ["up"], 0)
        self.expect_bad([None, 1], ["up", "up"], 1)
        self.expect_bad([1, 0], ["up", "up"], 0)
        self.expect_bad([None, 2, 3, 1], ["up"] * 4, 1)
        self.expect_bad([1, 2, 1], ["up"] * 3, 0)
        self.expect_bad([None, 0, 3, 4, 3], ["first", "up", "up", "up", "up"], 2)

    def test_parents_of_kind_first_or_last(self):
        self.expect_bad([None, 0], ["first", "up"], 0)
        self.expect_bad([None, 0], ["last", "up"], 0)
        self.expect_bad([1, None], ["up", "last"], 1)
        self.expect_bad([2, 0, None, 2], ["last", "up", "first", "up"], 0)
        for kind in KINDS:
            self.assertEqual(Forest([None, None], [kind, kind]).kinds, (kind, kind))

    def test_numbers_of_forests(self):
        self.assertEqual([len(all_forests(fields)) for fields in (1, 2, 3)], [4, 32, 448])


class MergeTest(unittest.TestCase):
    def test_the_example_of_the_document(self):
        forest = Forest([None, 0, 0], ["up", "up", "last"])
        self.assertEqual(forest((1, 5, 7), (2, 3, 4)), (2, 3, 4))
        self.assertEqual(forest((2, 5, 7), (2, 3, 4)), (2, 5, 4))

    def test_single_fields(self):
        found = [Forest([None], [kind])((older,), (newer,))[0] for kind in KINDS for older, newer in ((3, 5), (5, 3))]
        self.assertEqual(found, [5, 5, 3, 3, 3, 5, 5, 3])

    def test_merges_of_all_forests_with_2_fields(self):
        records = all_records(2, (0, 1, 2))
        for forest in all_forests(2):
            for x in records:
                for y in records:
                    self.assertEqual(forest(x, y), merged_by_words(forest.parents, forest.kinds, x, y))

    def test_merges_of_random_forests(self):
        rng = random.Random(1)
        for _ in range(300):
            fields = rng.randrange(1, 17)
            forest = random_forest(rng, fields)
            x, y = [tuple([rng.randrange(3) - 1 for _ in range(fields)]) for _ in range(2)]
            merged = forest(x, y)
            self.assertEqual(merged, merged_by_words(forest.parents, forest.kinds, x, y))
            self.assertEqual(forest(x, x), x)
            for field in range(fields):
                along = [tuple([record[step] for step in forest.path(field)]) for record in (merged, x, y)]
                self.assertIn(along[0], along[1:])

    def test_large_numbers(self):
        forest = Forest([None, 0], ["down", "up"])
        big = 10 ** 60
        self.assertEqual(forest((big, 1), (big - 1, 0)), (big - 1, 0))

    def test_records_of_a_wrong_length(self):
        forest = Forest([None, 0], ["up", "first"])
        for bad in ((), (1,), (1, 2, 3)):
            for older, newer in ((bad, (1, 2)), ((1, 2), bad), (bad, (9,) * 9)):
                with self.assertRaises(BadRecord) as caught:
                    forest(older, newer)
                self.assertEqual(caught.exception.record, bad)
        self.assertEqual((forest.parents, forest.kinds), ((None, 0), ("up", "first")))


class FirstUnlikeTest(unittest.TestCase):
    def test_the_first_field_on_the_path(self):
        forest = Forest([None, 0, 1, None], ["up", "down", "last", "first"])
        self.assertEqual(first_unlike(forest, 2, (1, 1, 1, 1), (2, 2, 2, 2)), 0)
        self.assertEqual(first_unlike(forest, 2, (1, 1, 1, 1), (1, 2, 2, 2)), 1)
        self.assertEqual(first_unlike(forest, 2, (1, 1, 1, 1), (1, 1, 2, 2)), 2)
        self.assertIsNone(first_unlike(forest, 2, (1, 1, 1, 1), (1, 1, 1, 2)))
        self.assertIsNone(first_unlike(forest, 0, (1, 1, 1, 1), (1, 2, 2, 2)))
        self.assertEqual(first_unlike(forest, 3, (1, 1, 1, 1), (2, 2, 2, 2)), 3)

    def test_errors_in_the_order_of_the_arguments(self):
        forest = Forest([None, 0], ["up", "down"])
        for place in (-1, 2, 10 ** 20):
            with self.assertRaises(BadPlace) as caught:
                first_unlike(forest, place, (1,), (1,))
            self.assertEqual(caught.exception.place, place)
        for first, second, bad in (((1,), (1, 2, 3), (1,)), ((1, 2), (1, 2, 3), (1, 2, 3)), ((), (), ())):
            with self.assertRaises(BadRecord) as caught:
                first_unlike(forest, 1, first, second)
            self.assertEqual(caught.exception.record, bad)


class BookOfTest(unittest.TestCase):
    def test_trees_of_each_kind(self):
        self.assertEqual([book_of(Forest([None], [kind])).trees[0] for kind in KINDS],
                         [UP, (0, "older", "older", "newer"), "older", "newer"])

    def test_trees_ask_along_the_path(self):
        book = book_of(Forest([None, 0, 1, 1], ["down", "up", "down", "last"]))
        self.assertIsInstance(book, Book)
        self.assertEqual(book.trees, (
            (0, "older", "older", "newer"),
            (0, "older", (1, "newer", "older", "older"), "newer"),
            (0, "older", (1, "newer", (2, "older", "older", "newer"), "older"), "newer"),
            (0, "older", (1, "newer", "newer", "older"), "newer"),
        ))

    def test_the_book_merges_like_the_forest(self):
        rng = random.Random(2)
        for fields in range(1, 7):
            for _ in range(40):
                forest = random_forest(rng, fields)
                book = book_of(forest)
                self.assertEqual(book.fields, fields)
                for _ in range(20):
                    x, y = [tuple([rng.randrange(3) for _ in range(fields)]) for _ in range(2)]
                    self.assertEqual(book(x, y), forest(x, y))


class TurnedAndMirroredTest(unittest.TestCase):
    def test_kinds(self):
        forest = Forest([None, 0, 0, 0, None], ["up", "down", "first", "last", "up"])
        turned, mirrored = turned_forest(forest), mirror_forest(forest)
        self.assertEqual((turned.parents, turned.kinds), (forest.parents, ("down", "up", "first", "last", "down")))
        self.assertEqual((mirrored.parents, mirrored.kinds), (forest.parents, ("up", "down", "last", "first", "up")))

    def test_16_fields(self):
        parents = [None] + list(range(15))
        self.assertEqual(turned_forest(Forest(parents, ["up"] * 15 + ["last"])).kinds, ("down",) * 15 + ("last",))
        self.assertEqual(mirror_forest(Forest(parents, ["up"] * 15 + ["last"])).kinds, ("up",) * 15 + ("first",))

    def test_merges(self):
        rng = random.Random(3)
        for _ in range(100):
            forest = random_forest(rng, 4)
            x, y = [tuple([rng.randrange(3) for _ in range(4)]) for _ in range(2)]
            self.assertEqual(mirror_forest(forest)(x, y), forest(y, x))
            low_x, low_y = [tuple([-value for value in record]) for record in (x, y)]
            self.assertEqual(turned_forest(forest)(low_x, low_y), tuple([-value for value in forest(x, y)]))

    def test_a_forest_is_fair_exactly_if_it_merges_alike_in_both_orders(self):
        records = all_records(2, (0, 1))
        for forest in all_forests(2):
            same = all(forest(x, y) == forest(y, x) for x in records for y in records)
            self.assertIs(forest.fair, same)


if __name__ == "__main__":
    unittest.main()
