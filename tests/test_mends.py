import random
import unittest
from itertools import combinations

from fieldrides.books import Book
from fieldrides.forests import Forest, book_of
from fieldrides.judge import decide
from fieldrides.mends import book_words, mend
from fieldrides.words import tree_of_word
from tests.helpers import (
    all_forests, disguised, disguised_book_trees, function_of, path_of, random_forest, random_tree,
)

UP = (1, "newer", "older", "older")
# The sign of one of the two fields turns what the other one says.
NO_WORD = (0, (1, "newer", "older", "older"), "older", (1, "older", "older", "newer"))
CROSSED = Book([
    (1, "newer", (0, "newer", "older", "older"), "older"), (0, "newer", (1, "newer", "older", "older"), "older"),
])


def word_by_words(forest, field):
    return tuple((step, forest.kinds[step]) for step in path_of(forest.parents, field))


def words_by_function(fields):
    """For each field a list of all its words with their functions."""
    found = [{} for _ in range(fields)]
    for forest in all_forests(fields):
        for field in range(fields):
            word = word_by_words(forest, field)
            found[field][word] = function_of(tree_of_word(word), field, fields)
    return found


def fits(forest, field, word):
    return word is not None and word_by_words(forest, field) == word


class BookWordsTest(unittest.TestCase):
    def test_words_and_none(self):
        self.assertEqual(book_words(CROSSED), (((1, "up"), (0, "up")), ((0, "up"), (1, "up"))))
        self.assertEqual(book_words(Book(["older", UP])), (((0, "first"),), ((1, "up"),)))
        self.assertEqual(book_words(Book([NO_WORD, "newer"])), (None, ((1, "last"),)))
        book = Book([NO_WORD, (0, "older", "newer", "newer")])
        self.assertEqual(book_words(book), (None, ((0, "down"), (1, "last"))))
        self.assertEqual(book_words(Book([NO_WORD, NO_WORD])), (None, None))

    def test_books_of_two_fields(self):
        rng = random.Random(1)
        words = words_by_function(2)
        for _ in range(400):
            trees = [random_tree(rng, 2, 3) for _ in range(2)]
            wanted = []
            for field, tree in enumerate(trees):
                function = function_of(tree, field, 2)
                fitting = [word for word, other in words[field].items() if other == function]
                self.assertLessEqual(len(fitting), 1)
                wanted.append(fitting[0] if fitting else None)
            self.assertEqual(book_words(Book(trees)), tuple(wanted))

    def test_books_of_forests(self):
        rng = random.Random(2)
        for _ in range(150):
            forest = random_forest(rng, rng.randrange(1, 7))
            book = Book(disguised_book_trees(rng, forest, 4))
            self.assertEqual(book_words(book), tuple(word_by_words(forest, field) for field in range(forest.fields)))


class MendTest(unittest.TestCase):
    def check(self, book):
        words = book_words(book)
        forest, kept = mend(book)
        self.assertIsInstance(kept, tuple)
        self.assertEqual(forest.fields, book.fields)
        for field in range(book.fields):
            if field in kept:
                self.assertTrue(fits(forest, field, words[field]))
                function = function_of(book.trees[field], field, book.fields)
                self.assertEqual(function_of(book_of(forest).trees[field], field, book.fields), function)
        held = {step for field in kept for step, _ in words[field]}
        for field in range(book.fields):
            if field not in held:
                self.assertEqual((forest.parents[field], forest.kinds[field]), (None, "up"))
        return forest, kept

    def test_fields_that_cross(self):
        forest, kept = self.check(CROSSED)
        self.assertEqual((kept, forest.parents, forest.kinds), ((0,), (1, None), ("up", "up")))

    def test_no_field_has_a_word(self):
        forest, kept = self.check(Book([NO_WORD, NO_WORD]))
        self.assertEqual((kept, forest.parents, forest.kinds), ((), (None, None), ("up", "up")))

    def test_fields_without_a_word_take_the_place_that_other_words_say(self):
        tree = (0, "older", (1, "older", "older", "newer"), "newer")
        forest, kept = self.check(Book([NO_WORD, tree, "newer"]))
        self.assertEqual((kept, forest.parents), ((1, 2), (None, 0, None)))
        self.assertEqual(forest.kinds, ("down", "down", "last"))

    def test_the_least_of_several_greatest_choices(self):
        # Here 0 and 3 stand together, and 1 and 2, but no other two.
        words = (
            ((0, "up"),), ((0, "down"), (1, "up")), ((0, "down"), (2, "first")), ((0, "up"), (3, "down")),
        )
        forest, kept = self.check(Book([tree_of_word(word) for word in words]))
        self.assertEqual((kept, forest.parents), ((0, 3), (None, None, None, 0)))
        words = (
            ((0, "up"),), ((0, "down"), (1, "up")), ((0, "down"), (2, "first")), ((0, "down"), (3, "down")),
        )
        forest, kept = self.check(Book([tree_of_word(word) for word in words]))
        self.assertEqual((kept, forest.parents), ((1, 2, 3), (None, 0, 0, 0)))

    def test_no_forest_keeps_more_fields(self):
        rng = random.Random(3)
        forests = {fields: all_forests(fields) for fields in (1, 2, 3)}
        sizes = []
        for _ in range(150):
            fields = rng.randrange(1, 4)
            trees = []
            for field in range(fields):
                word = word_by_words(rng.choice(forests[fields]), field)
                tree = tree_of_word(word) if rng.random() < 0.85 else random_tree(rng, fields, 2)
                trees.append(disguised(rng, tree, fields, 2))
            book = Book(trees)
            words = book_words(book)
            fitting = [
                tuple(field for field in range(fields) if fits(forest, field, words[field]))
                for forest in forests[fields]
            ]
            best = min(fitting, key=lambda kept: (-len(kept), kept))
            self.assertEqual(self.check(book)[1], best)
            sizes.append(fields - len(best))
        self.assertGreater(min(sizes.count(0), sizes.count(1)), 20)

    def test_six_fields_against_all_choices(self):
        rng = random.Random(4)
        for _ in range(150):
            first, second = random_forest(rng, 6), random_forest(rng, 6)
            words = [word_by_words(rng.choice((first, second)), field) for field in range(6)]
            choices = [
                chosen for many in range(7) for chosen in combinations(range(6), many)
                if all(self.together(words[a], words[b]) for a, b in combinations(chosen, 2))
            ]
            wanted = min(choices, key=lambda chosen: (-len(chosen), chosen))
            trees = [disguised(rng, tree_of_word(word), 6, 2) for word in words]
            self.assertEqual(self.check(Book(trees))[1], wanted)

    def together(self, first, second):
        for at, (field, _) in enumerate(first):
            for place, (other, _) in enumerate(second):
                if field == other and first[:at + 1] != second[:place + 1]:
                    return False
        return True

    def test_books_that_are_alike_in_rows_keep_all_fields(self):
        rng = random.Random(5)
        for _ in range(150):
            wanted = random_forest(rng, rng.randrange(1, 7))
            book = Book(disguised_book_trees(rng, wanted, 3))
            forest, kept = mend(book)
            verdict = decide(book)
            self.assertEqual(kept, tuple(range(book.fields)))
            self.assertEqual((forest.parents, forest.kinds), (verdict.forest.parents, verdict.forest.kinds))

    def test_books_without_words_at_all(self):
        rng = random.Random(6)
        for _ in range(100):
            fields = rng.randrange(2, 7)
            trees = []
            for field in range(fields):
                other = (field + 1) % fields
                trees.append((other, (field, "newer", "older", "older"), "older", (field, "older", "older", "newer")))
            self.assertEqual(book_words(Book(trees)), (None,) * fields)
            forest, kept = mend(Book(trees))
            self.assertEqual((kept, forest.parents, forest.kinds), ((), (None,) * fields, ("up",) * fields))


if __name__ == "__main__":
    unittest.main()
