import random
import unittest

from fieldrides.books import Book
from fieldrides.booktext import read_book, write_book
from fieldrides.errors import BadText, BadTree
from tests.helpers import random_tree

UP = "0(newer,older,older)"
TREE = (0, "newer", "older", "older")


class BookTextTest(unittest.TestCase):
    def expect_bad(self, text, line):
        with self.assertRaises(BadText) as caught:
            read_book(text)
        self.assertEqual(caught.exception.line, line)

    def test_written_form(self):
        self.assertEqual(write_book(Book([TREE])), f"0: {UP}")
        self.assertEqual(write_book(Book([TREE, "newer", TREE])), f"0: {UP}\n1: newer\n2: {UP}")

    def test_reading_the_written_form_returns_the_same_book(self):
        rng = random.Random(1)
        for fields in (1, 2, 3, 4, 5, 6):
            for _ in range(20):
                book = Book([random_tree(rng, fields, 3) for _ in range(fields)])
                again = read_book(write_book(book))
                self.assertIsInstance(again, Book)
                self.assertEqual((again.fields, again.trees), (fields, book.trees))

    def test_the_empty_text_and_empty_lines(self):
        self.expect_bad("", 1)
        self.expect_bad("\n", 1)
        self.expect_bad(f"0: {UP}\n", 2)
        self.expect_bad(f"\n0: {UP}", 1)
        self.expect_bad(f"0: {UP}\n\n1: older", 2)
        self.expect_bad("\n".join([f"{field}: older" for field in range(6)]) + "\n", 7)

    def test_wrong_lines(self):
        lines = (
            "{}", "2: {}", "1:{}", "1:  {}", "1 : {}", " 1: {}", "1: {} ", "01: {}",
            "1; {}", "1:\t{}", "1: {}\r", "1: {}\t",
            ": {}", "-1: {}", "1: ", "1:", "1", "1: clash", "1: old", "1: 0(newer,older)", "1: older newer", "one: {}",
        )
        for line in lines:
            with self.subTest(line=line):
                self.expect_bad("0: older\n" + line.format(UP), 2)
                self.expect_bad("0: older\n" + line.format(UP) + "\n2: older\n7: older", 2)
        self.expect_bad(f"1: {UP}", 1)
        self.expect_bad(UP, 1)

    def test_the_first_wrong_line_counts(self):
        self.expect_bad("0: older\n2: older\n1: older", 2)
        self.expect_bad("0: older\n1: older\n2: x\n3: y", 3)

    def test_a_seventh_line_is_always_wrong(self):
        self.assertEqual(read_book("\n".join([f"{field}: older" for field in range(6)])).fields, 6)
        for fields in (7, 8, 12):
            self.expect_bad("\n".join([f"{field}: older" for field in range(fields)]), 7)
        self.expect_bad("\n".join([f"{field}: older" if field != 3 else "" for field in range(9)]), 4)

    def test_errors_of_the_book_come_after_those_of_the_lines(self):
        with self.assertRaises(BadTree) as caught:
            read_book("0: older\n1: 3(newer,older,older)\n2: 9(newer,older,older)")
        self.assertEqual(caught.exception.field, 1)
        with self.assertRaises(BadTree) as caught:
            read_book("0: 1(newer,older,older)")
        self.assertEqual(caught.exception.field, 0)
        self.expect_bad("0: 5(newer,older,older)\n1: wrong", 2)


if __name__ == "__main__":
    unittest.main()
