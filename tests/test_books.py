import random
import unittest

from fieldrides.books import Book, differing_pair, least_book, mirror_book, unfair_pair
from fieldrides.errors import BadRecord, BadTree, FieldridesError, FieldsDiffer
from fieldrides.trees import least_tree, mirror_tree
from tests.helpers import all_records, all_rows, disguised, end_of, large_tree, random_tree

UP = (0, "newer", "older", "older")
CROSSED = (
    (1, "newer", UP, "older"),
    (0, "newer", (1, "newer", "older", "older"), "older"),
)


def random_book(rng, fields, depth=3):
    return Book([random_tree(rng, fields, depth) for _ in range(fields)])


def merged_by_words(trees, older, newer):
    """The merge, word for word after point 14."""
    row = tuple([(old > new) - (old < new) for old, new in zip(older, newer)])
    merged = []
    for field, tree in enumerate(trees):
        if row[field] == 0:
            merged.append(older[field])
        else:
            merged.append(older[field] if end_of(tree, row) == "older" else newer[field])
    return tuple(merged)


class BookTest(unittest.TestCase):
    def test_attributes(self):
        book = Book(CROSSED)
        self.assertEqual((book.fields, book.trees), (2, CROSSED))
        self.assertIsInstance(Book(list(CROSSED)).trees, tuple)

    def test_a_given_list_is_neither_changed_nor_kept(self):
        trees = list(CROSSED)
        book = Book(trees)
        self.assertEqual(trees, list(CROSSED))
        trees[0] = "older"
        trees.append("older")
        self.assertEqual((book.fields, book.trees), (2, CROSSED))

    def test_no_tree_at_all(self):
        for trees in ([], ()):
            with self.assertRaises(BadTree) as caught:
                Book(trees)
            self.assertIsNone(caught.exception.field)
            self.assertIsInstance(caught.exception, FieldridesError)

    def test_the_lowest_field_whose_tree_asks_too_much(self):
        asks_1, asks_2 = (1, "older", "newer", "older"), (2, "older", "newer", "older")
        cases = (
            ([asks_1], 0), ([UP, asks_2], 1), ([asks_2, asks_2], 0), (["older", asks_1, (3, UP, UP, UP)], 2),
            ([(0, asks_1, "older", asks_2), asks_2], 0), ([UP, (0, "older", "older", (1, "older", asks_2, UP))], 1),
        )
        for trees, field in cases:
            with self.assertRaises(BadTree) as caught:
                Book(trees)
            self.assertEqual(caught.exception.field, field)
        Book([asks_2, asks_1, UP])

    def test_books_of_1_and_of_6_fields(self):
        self.assertEqual(Book([UP])((3,), (5,)), (5,))
        book = Book([(5, "newer", "older", "older")] * 6)
        self.assertEqual(book((1, 2, 3, 4, 5, 6), (0, 0, 0, 0, 0, 7)), (0, 0, 0, 0, 0, 7))
        self.assertEqual(book((1, 2, 3, 4, 5, 6), (0, 0, 0, 0, 0, 6)), (1, 2, 3, 4, 5, 6))

    def test_merges_follow_the_trees(self):
        rng = random.Random(1)
        for _ in range(60):
            fields = rng.randrange(1, 4)
            book = random_book(rng, fields)
            for older in all_records(fields, (0, 1)):
                for newer in all_records(fields, (0, 1)):
                    self.assertEqual(book(older, newer), merged_by_words(book.trees, older, newer))

    def test_a_record_merged_with_itself_is_itself(self):
        rng = random.Random(2)
        for _ in range(20):
            record = tuple([rng.randrange(-10 ** 59, 10 ** 59) for _ in range(3)])
            self.assertEqual(random_book(rng, 3)(record, record), record)

    def test_a_common_value_does_not_need_the_tree(self):
        book = Book(["newer", UP])
        self.assertEqual(book((4, 1), (4, 2)), (4, 1))
        self.assertEqual(book((4, 1), (5, 2)), (5, 2))

    def test_records_of_a_wrong_length(self):
        book = Book(CROSSED)
        good = (1, 2)
        for bad in ((), (1,), (1, 2, 3)):
            for older, newer in ((bad, good), (good, bad)):
                with self.assertRaises(BadRecord) as caught:
                    book(older, newer)
                self.assertEqual(caught.exception.record, bad)
        with self.assertRaises(BadRecord) as caught:
            book((1,), (1, 2, 3))
        self.assertEqual(caught.exception.record, (1,))
        with self.assertRaises(BadRecord) as caught:
            book((1,), (2,))
        self.assertEqual(caught.exception.record, (1,))
        self.assertEqual((book.fields, book.trees), (2, CROSSED))

    def test_side(self):
        book = Book(CROSSED)
        self.assertEqual(book.side(0, (0, 1)), "same")
        self.assertEqual(book.side(0, (-1, 1)), "older")
        self.assertEqual(book.side(0, (-1, 0)), "newer")
        self.assertEqual(book.side(1, (-1, 1)), "newer")
        for row in all_rows(2):
            for field in (0, 1):
                expected = end_of(CROSSED[field], row) if row[field] else "same"
                self.assertEqual(book.side(field, row), expected)

    def test_the_same_call_has_the_same_answer(self):
        book = Book(CROSSED)
        for _ in range(3):
            self.assertEqual(book((0, 1), (1, 0)), (0, 0))


class LikenessTest(unittest.TestCase):
    def test_least_book_has_the_least_trees(self):
        rng = random.Random(3)
        for _ in range(40):
            book = random_book(rng, 3)
            least = least_book(book)
            self.assertEqual(least.trees, tuple([least_tree(tree, f, 3) for f, tree in enumerate(book.trees)]))
            self.assertEqual(least_book(least).trees, least.trees)

    def test_differing_pair_is_none_exactly_for_alike_books(self):
        rng = random.Random(4)
        alike = 0
        for _ in range(400):
            fields = rng.randrange(1, 4)
            first = random_book(rng, fields, rng.randrange(3))
            trees = list(first.trees)
            at = rng.randrange(fields)
            trees[at] = disguised(rng, trees[at], fields, 3) if rng.random() < 0.5 else random_tree(rng, fields, 2)
            second = Book(trees)
            records = all_records(fields, (0, 1, 2))
            same = all(first(x, y) == second(x, y) for x in records for y in records)
            self.assertEqual(least_book(first).trees == least_book(second).trees, same)
            self.check_pair(differing_pair(first, second), same, first, second)
            alike += same
        self.assertGreater(alike, 100)
        self.assertLess(alike, 300)

    def check_pair(self, pair, same, first, second):
        if same:
            self.assertIsNone(pair)
            return
        self.assertIsInstance(pair, tuple)
        older, newer = pair
        for record in pair:
            self.assertIsInstance(record, tuple)
            self.assertLessEqual(set(record), {0, 1})
        self.assertNotEqual(first(older, newer), second(older, newer))

    def test_a_difference_in_a_sign_that_is_never_0(self):
        first = Book([(0, "newer", "older", "older")])
        second = Book([(0, "newer", "newer", "older")])
        self.assertIsNone(differing_pair(first, second))

    def test_a_difference_at_one_row_of_six_fields(self):
        rng = random.Random(5)
        for _ in range(30):
            row = tuple([rng.choice((-1, 0, 1)) for _ in range(5)]) + (rng.choice((-1, 1)),)
            tree = "older"
            for field in range(6):
                branches = ["newer"] * 3
                branches[row[field] + 1] = tree
                tree = (field, *branches)
            first, second = Book(["older"] * 5 + [tree]), Book(["older"] * 5 + ["newer"])
            self.check_pair(differing_pair(first, second), False, first, second)

    def test_unlike_numbers_of_fields(self):
        for one, two in ((1, 2), (2, 1), (6, 5)):
            with self.assertRaises(FieldsDiffer) as caught:
                differing_pair(Book(["older"] * one), Book(["older"] * two))
            self.assertEqual((caught.exception.first, caught.exception.second), (one, two))

    def test_books_with_large_trees(self):
        rng = random.Random(6)
        book = Book([large_tree(rng, 6, 400) for _ in range(6)])
        self.assertIsNone(differing_pair(book, least_book(book)))
        self.check_pair(differing_pair(book, mirror_book(book)), False, book, mirror_book(book))


class MirrorTest(unittest.TestCase):
    def test_mirror_merges_in_the_other_order(self):
        rng = random.Random(7)
        for _ in range(40):
            book = random_book(rng, 2)
            mirror = mirror_book(book)
            self.assertEqual(mirror.trees, tuple([mirror_tree(tree) for tree in book.trees]))
            for x in all_records(2, (0, 1, 2)):
                for y in all_records(2, (0, 1, 2)):
                    self.assertEqual(mirror(x, y), book(y, x))

    def test_unfair_pair_is_none_exactly_for_fair_books(self):
        rng = random.Random(8)
        seen = [0, 0]
        for _ in range(300):
            fields = rng.randrange(1, 3)
            book = random_book(rng, fields, 2)
            if rng.random() < 0.4:
                book = Book([disguised(rng, UP, fields, 3)] * fields)
            records = all_records(fields, (0, 1, 2))
            fair = all(book(x, y) == book(y, x) for x in records for y in records)
            pair = unfair_pair(book)
            seen[fair] += 1
            if fair:
                self.assertIsNone(pair)
            else:
                x, y = pair
                self.assertLessEqual(set(x + y), {0, 1})
                self.assertNotEqual(book(x, y), book(y, x))
        self.assertGreater(min(seen), 30)

    def test_ends_alone_are_unfair(self):
        for end in ("older", "newer"):
            x, y = unfair_pair(Book([end]))
            self.assertEqual(sorted([x, y]), [(0,), (1,)])


if __name__ == "__main__":
    unittest.main()
