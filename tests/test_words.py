import random
import unittest

from fieldrides.errors import WordsClash
from fieldrides.forests import Forest, book_of
from fieldrides.trees import least_tree
from fieldrides.words import forest_of_words, stand_together, tree_of_word, word_of_tree
from tests.helpers import all_forests, disguised, function_of, random_forest, random_tree

KINDS = ("up", "down", "first", "last")


def all_words(field, fields):
    """All words for the field in a book of so many fields."""
    others = [other for other in range(fields) if other != field]
    beginnings = [()]
    words = []
    while beginnings:
        begin = beginnings.pop()
        words.extend([begin + ((field, kind),) for kind in KINDS])
        used = [step for step, _ in begin]
        beginnings.extend([begin + ((f, kind),) for f in others if f not in used for kind in ("up", "down")])
    return words


def random_word(rng, field, fields):
    others = [other for other in range(fields) if other != field]
    above = rng.sample(others, rng.randrange(len(others) + 1))
    return tuple([(step, rng.choice(("up", "down"))) for step in above] + [(field, rng.choice(KINDS))])


class TreeOfWordTest(unittest.TestCase):
    def test_one_step(self):
        self.assertEqual([tree_of_word(((3, kind),)) for kind in KINDS],
                         [(3, "newer", "older", "older"), (3, "older", "older", "newer"), "older", "newer"])

    def test_many_steps(self):
        word = ((4, "down"), (0, "up"), (2, "last"))
        self.assertEqual(tree_of_word(word), (4, "older", (0, "newer", "newer", "older"), "newer"))
        word = ((4, "down"), (0, "up"), (2, "down"))
        self.assertEqual(tree_of_word(word),
                         (4, "older", (0, "newer", (2, "older", "older", "newer"), "older"), "newer"))

    def test_it_is_the_tree_of_the_book_of_a_forest(self):
        rng = random.Random(1)
        for _ in range(50):
            forest = random_forest(rng, 5)
            trees = tuple([tree_of_word(forest.word(field)) for field in range(5)])
            self.assertEqual(trees, book_of(forest).trees)


class WordOfTreeTest(unittest.TestCase):
    def test_all_words_of_3_fields_come_back(self):
        rng = random.Random(2)
        for field in range(3):
            words = all_words(field, 3)
            self.assertEqual(len(words), 4 + 2 * 2 * 4 + 2 * 2 * 2 * 4)
            functions = set()
            for word in words:
                tree = tree_of_word(word)
                functions.add(tuple(sorted(function_of(tree, field, 3).items())))
                self.assertEqual(word_of_tree(tree, field, 3), word)
                self.assertEqual(word_of_tree(disguised(rng, tree, 3, 4), field, 3), word)
                self.assertEqual(word_of_tree(least_tree(tree, field, 3), field, 3), word)
            self.assertEqual(len(functions), len(words))

    def test_other_functions_have_no_word(self):
        rng = random.Random(3)
        known = {}
        for field in range(2):
            for word in all_words(field, 2):
                known[field, tuple(sorted(function_of(tree_of_word(word), field, 2).items()))] = word
        found = 0
        for _ in range(2000):
            field = rng.randrange(2)
            tree = random_tree(rng, 2, 3)
            word = known.get((field, tuple(sorted(function_of(tree, field, 2).items()))))
            self.assertEqual(word_of_tree(tree, field, 2), word)
            found += word is not None
        self.assertGreater(found, 200)
        self.assertLess(found, 1800)

    def test_trees_without_a_word(self):
        sometimes = (1, "older", (0, "newer", "older", "older"), "older")
        self.assertIsNone(word_of_tree(sometimes, 0, 2))
        self.assertIsNone(word_of_tree((1, "newer", (2, "older", "newer", "older"), "older"), 0, 3))
        by_2 = (2, "newer", "older", "older")
        self.assertIsNone(word_of_tree((1, "newer", by_2, by_2), 0, 3))

    def test_ends_alone(self):
        self.assertEqual(word_of_tree("older", 1, 3), ((1, "first"),))
        self.assertEqual(word_of_tree("newer", 0, 1), ((0, "last"),))

    def test_what_the_sign_0_of_the_field_itself_leads_to_does_not_count(self):
        tree = (0, "newer", (1, "older", "newer", "newer"), "older")
        self.assertEqual(word_of_tree(tree, 0, 2), ((0, "up"),))

    def test_words_with_6_fields(self):
        rng = random.Random(4)
        for _ in range(100):
            field = rng.randrange(6)
            word = random_word(rng, field, 6)
            tree = disguised(rng, tree_of_word(word), 6, 5)
            self.assertEqual(word_of_tree(tree, field, 6), word)


class StandTogetherTest(unittest.TestCase):
    def test_examples(self):
        one = ((0, "up"), (1, "down"))
        cases = (
            (one, one, True), (one, ((0, "up"),), True), (one, ((0, "down"),), False), (one, ((1, "down"),), False),
            (one, ((2, "last"),), True), (one, ((0, "up"), (2, "last")), True), (one, ((2, "up"), (0, "up")), False),
            (one, ((1, "down"), (0, "up")), False), (((0, "first"),), ((0, "last"),), False),
            (((0, "up"), (1, "up"), (3, "up")), ((0, "up"), (2, "up"), (3, "up")), False),
        )
        for first, second, expected in cases:
            self.assertIs(stand_together(first, second), expected)
            self.assertIs(stand_together(second, first), expected)

    def test_words_stand_together_exactly_if_a_forest_has_them(self):
        forests = all_forests(2)
        for one in all_words(0, 2):
            for two in all_words(1, 2):
                together = any(forest.word(0) == one and forest.word(1) == two for forest in forests)
                self.assertIs(stand_together(one, two), together)


class ForestOfWordsTest(unittest.TestCase):
    def test_the_words_of_a_forest(self):
        rng = random.Random(5)
        for _ in range(100):
            fields = rng.randrange(1, 17)
            forest = random_forest(rng, fields)
            again = forest_of_words(fields, [forest.word(field) for field in range(fields)])
            self.assertIsInstance(again, Forest)
            self.assertEqual((again.parents, again.kinds), (forest.parents, forest.kinds))

    def test_fields_without_a_word(self):
        forest = forest_of_words(4, [None, ((2, "down"), (1, "last")), None, None])
        self.assertEqual((forest.parents, forest.kinds), ((None, 2, None, None), ("up", "last", "down", "up")))
        forest = forest_of_words(2, [None, None])
        self.assertEqual((forest.parents, forest.kinds), ((None, None), ("up", "up")))

    def test_the_given_list_is_not_changed(self):
        words = [((1, "up"), (0, "down")), None]
        forest_of_words(2, words)
        self.assertEqual(words, [((1, "up"), (0, "down")), None])

    def test_the_first_pair_that_does_not_stand_together(self):
        up = [((field, "up"),) for field in range(4)]
        cases = (
            ([((1, "up"), (0, "up")), ((0, "up"), (1, "up"))], (0, 1)),
            ([up[0], up[1], ((1, "down"), (2, "up")), ((0, "down"), (3, "up"))], (0, 3)),
            ([up[0], up[1], ((1, "down"), (2, "up")), ((1, "down"), (3, "up"))], (1, 2)),
            ([None, up[1], None, ((1, "down"), (3, "up"))], (1, 3)),
            ([None, ((0, "up"), (1, "up")), ((0, "down"), (2, "up"))], (1, 2)),
            ([((0, "first"),), ((0, "up"), (1, "up"))], (0, 1)),
        )
        for words, pair in cases:
            with self.assertRaises(WordsClash) as caught:
                forest_of_words(len(words), words)
            self.assertEqual((caught.exception.first, caught.exception.second), pair)

    def test_random_words_clash_exactly_if_no_forest_has_them(self):
        rng = random.Random(6)
        seen = [0, 0]
        for _ in range(500):
            words = [random_word(rng, field, 3) if rng.random() < 0.7 else None for field in range(3)]
            pairs = [
                (one, two) for one in range(3) for two in range(one + 1, 3)
                if words[one] and words[two] and not stand_together(words[one], words[two])
            ]
            seen[not pairs] += 1
            if pairs:
                with self.assertRaises(WordsClash) as caught:
                    forest_of_words(3, words)
                self.assertEqual((caught.exception.first, caught.exception.second), min(pairs))
                continue
            forest = forest_of_words(3, words)
            told = {field for word in words if word for field, _ in word}
            for field in range(3):
                if words[field]:
                    self.assertEqual(forest.word(field), words[field])
                if field not in told:
                    self.assertEqual(forest.word(field), ((field, "up"),))
        self.assertGreater(min(seen), 50)


if __name__ == "__main__":
    unittest.main()
