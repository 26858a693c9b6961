import random
import types
import unittest
from math import comb

from fieldrides.errors import BadNumber, FieldridesError, NotFair
from fieldrides.forests import Forest
from fieldrides.numbers import (
    count_by_leaves, count_by_roots, count_fair, count_forests, count_low, count_shapes, fair_forests, forest_at,
    number_of, shape_word,
)
from tests.helpers import all_forests, all_shapes, path_of, random_forest


def word_by_words(parents):
    """The shape word, word for word after point 32."""
    there = set(range(len(parents)))
    word = []
    while len(there) > 1:
        taken = max(field for field in there if all(parents[other] != field for other in there))
        there.discard(taken)
        word.append(0 if parents[taken] is None else 1 + parents[taken])
    return tuple(word)


def number_by_words(forest):
    number = 0
    for at, entry in enumerate(word_by_words(forest.parents)):
        number += entry * (forest.fields + 1) ** (forest.fields - 2 - at)
    return number * 2 ** forest.fields + sum(2 ** f for f in range(forest.fields) if forest.kinds[f] == "down")


def leaves_of(parents):
    return [field for field in range(len(parents)) if field not in parents]


class CountTest(unittest.TestCase):
    def test_numbers_of_shapes_and_forests(self):
        self.assertEqual([count_shapes(fields) for fields in range(1, 9)],
                         [1, 3, 16, 125, 1296, 16807, 262144, 4782969])
        self.assertEqual([count_fair(fields) for fields in range(1, 5)], [2, 12, 128, 2000])
        self.assertEqual([count_forests(fields) for fields in (1, 2, 3)], [4, 32, 448])

    def test_against_lists_of_all_shapes(self):
        for fields in range(1, 6):
            shapes = all_shapes(fields)
            self.assertEqual(count_shapes(fields), len(shapes))
            self.assertEqual(count_fair(fields), len(shapes) * 2 ** fields)
            self.assertEqual(count_forests(fields), sum(2 ** (fields + len(leaves_of(parents))) for parents in shapes))
            roots = [parents.count(None) for parents in shapes]
            leaves = [len(leaves_of(parents)) for parents in shapes]
            heights = [max(len(path_of(parents, field)) for field in range(fields)) for parents in shapes]
            for number in range(21):
                self.assertEqual(count_by_roots(fields, number), roots.count(number))
                self.assertEqual(count_by_leaves(fields, number), leaves.count(number))
                self.assertEqual(count_low(fields, number), sum(height <= number for height in heights))

    def test_against_the_list_of_all_forests(self):
        for fields in (1, 2, 3):
            self.assertEqual(count_forests(fields), len(all_forests(fields)))

    def test_16_fields(self):
        self.assertEqual(count_shapes(16), 17 ** 15)
        self.assertEqual(count_fair(16), 17 ** 15 * 2 ** 16)
        self.assertEqual(count_by_roots(16, 1), 16 ** 15)
        self.assertEqual(count_by_roots(16, 2), 15 * 16 ** 14)
        self.assertEqual((count_by_roots(16, 16), count_by_leaves(16, 16)), (1, 1))
        factorial = 1
        for number in range(2, 17):
            factorial *= number
        self.assertEqual(count_by_leaves(16, 1), factorial)
        self.assertEqual(count_low(16, 15), 17 ** 15 - factorial)
        self.assertEqual([count_low(16, height) for height in (0, 1, 16, 17, 20)], [0, 1] + [17 ** 15] * 3)

    def test_the_numbers_of_larger_shapes(self):
        for fields in range(1, 17):
            self.assertEqual(sum(count_by_roots(fields, roots) for roots in range(21)), (fields + 1) ** (fields - 1))
            for leaves in range(21):
                # Words of fields - 1 entries in which exactly these other fields occur, by inclusion and exclusion.
                others = fields - leaves
                words = sum((-1) ** i * comb(others, i) * (others + 1 - i) ** (fields - 1) for i in range(others + 1))
                self.assertEqual(count_by_leaves(fields, leaves), comb(fields, max(others, 0)) * words)
            # With paths of 2 fields, some fields are roots, and each other one hangs on one of these.
            low = sum(comb(fields, roots) * roots ** (fields - roots) for roots in range(1, fields + 1))
            self.assertEqual(count_low(fields, 2), low)
            by_leaves = sum(count_by_leaves(fields, leaves) * 2 ** leaves for leaves in range(21))
            self.assertEqual(count_forests(fields), 2 ** fields * by_leaves)

    def test_no_shape(self):
        for fields in (1, 2, 8, 16):
            self.assertEqual((count_by_roots(fields, 0), count_by_leaves(fields, 0), count_low(fields, 0)), (0, 0, 0))
            for number in range(fields + 1, 21):
                self.assertEqual((count_by_roots(fields, number), count_by_leaves(fields, number)), (0, 0))


class ShapeWordTest(unittest.TestCase):
    def test_the_example_of_the_document(self):
        self.assertEqual(shape_word((None, 0, 0)), (1, 1))
        self.assertEqual(number_of(Forest([None, 0, 0], ["up", "up", "up"])), 5 * 8)

    def test_small_shapes(self):
        self.assertEqual(shape_word((None,)), ())
        self.assertEqual([shape_word(parents) for parents in ((None, None), (None, 0), (1, None))], [(0,), (1,), (2,)])
        self.assertEqual(shape_word([None, 2, 0, 0]), (1, 3, 1))
        self.assertEqual(shape_word((None,) * 16), (0,) * 15)
        self.assertEqual(shape_word((None, *range(15))), tuple(range(15, 0, -1)))
        self.assertEqual(shape_word((*range(1, 16), None)), tuple(range(2, 17)))

    def test_lists_are_taken_and_not_changed(self):
        parents = [None, 0, 1, None]
        self.assertEqual(shape_word(parents), shape_word(tuple(parents)))
        self.assertEqual(parents, [None, 0, 1, None])

    def test_each_word_belongs_to_one_shape(self):
        for fields in range(1, 6):
            words = [shape_word(parents) for parents in all_shapes(fields)]
            self.assertEqual(words, [word_by_words(parents) for parents in all_shapes(fields)])
            self.assertEqual(len(set(words)), (fields + 1) ** (fields - 1))
            for word in words:
                self.assertEqual(len(word), fields - 1)
                self.assertLessEqual(set(word), set(range(fields + 1)))

    def test_leaves_do_not_occur_in_the_word(self):
        rng = random.Random(1)
        for fields in range(1, 17):
            forest = random_forest(rng, fields)
            word = shape_word(forest.parents)
            self.assertEqual(forest.leaves, tuple([f for f in range(fields) if 1 + f not in word]))


class NumberTest(unittest.TestCase):
    def test_every_forest_of_few_fields_is_numbered_and_found_again(self):
        for fields in range(1, 5):
            seen = set()
            for number in range(count_fair(fields)):
                forest = forest_at(fields, number)
                self.assertTrue(forest.fair)
                self.assertEqual(forest.fields, fields)
                self.assertEqual(number_of(forest), number)
                self.assertEqual(number_by_words(forest), number)
                seen.add((forest.parents, forest.kinds))
            self.assertEqual(len(seen), count_fair(fields))

    def test_the_forests_with_2_fields(self):
        found = [forest_at(2, number) for number in range(12)]
        self.assertEqual([forest.parents for forest in found], [(None, None)] * 4 + [(None, 0)] * 4 + [(1, None)] * 4)
        self.assertEqual([forest.kinds for forest in found],
                         [("up", "up"), ("down", "up"), ("up", "down"), ("down", "down")] * 3)

    def test_1_field(self):
        self.assertEqual([forest_at(1, number).kinds for number in (0, 1)], [("up",), ("down",)])
        self.assertEqual(number_of(Forest([None], ["down"])), 1)

    def test_random_forests_up_to_16_fields(self):
        rng = random.Random(2)
        for _ in range(400):
            fields = rng.randrange(1, 17)
            forest = random_forest(rng, fields, fair=True)
            number = number_of(forest)
            self.assertEqual(number, number_by_words(forest))
            again = forest_at(fields, number)
            self.assertEqual((again.parents, again.kinds), (forest.parents, forest.kinds))
            number = rng.randrange(count_fair(fields))
            self.assertEqual(number_of(forest_at(fields, number)), number)

    def test_the_last_numbers(self):
        for fields in (1, 2, 5, 16):
            last = forest_at(fields, count_fair(fields) - 1)
            self.assertEqual(last.kinds, ("down",) * fields)
            # All entries of the word are n, so all fields hang on the last one.
            self.assertEqual(last.parents, (fields - 1,) * (fields - 1) + (None,))
            self.assertEqual(forest_at(fields, 0).parents, (None,) * fields)

    def test_numbers_outside_the_range(self):
        for fields in (1, 2, 3, 16):
            for number in (-1, -count_fair(fields), count_fair(fields), 10 ** 60):
                with self.assertRaises(BadNumber) as caught:
                    forest_at(fields, number)
                self.assertEqual(caught.exception.number, number)
                self.assertIsInstance(caught.exception, FieldridesError)

    def test_only_fair_forests_have_a_number(self):
        for parents, kinds, field in (
            ([None], ["first"], 0), ([None], ["last"], 0), ([None, 0, 0], ["up", "last", "first"], 1),
            ([None] * 16, ["down"] * 15 + ["first"], 15),
        ):
            with self.assertRaises(NotFair) as caught:
                number_of(Forest(parents, kinds))
            self.assertEqual(caught.exception.field, field)
            self.assertIsInstance(caught.exception, FieldridesError)


class FairForestsTest(unittest.TestCase):
    def test_all_fair_forests_in_ascending_order(self):
        for fields in range(1, 5):
            found = list(fair_forests(fields))
            self.assertEqual([number_by_words(forest) for forest in found], list(range(count_fair(fields))))

    def test_the_forests_are_all_fair_forests(self):
        for fields in (1, 2, 3):
            expected = {(forest.parents, forest.kinds) for forest in all_forests(fields) if forest.fair}
            self.assertEqual({(forest.parents, forest.kinds) for forest in fair_forests(fields)}, expected)

    def test_it_is_a_generator(self):
        found = fair_forests(4)
        self.assertIsInstance(found, types.GeneratorType)
        self.assertEqual(next(found).parents, (None,) * 4)
        self.assertEqual(next(found).kinds, ("down", "up", "up", "up"))


if __name__ == "__main__":
    unittest.main()
