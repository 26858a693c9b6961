import random
import unittest

from fieldrides.errors import BadText, FieldridesError
from fieldrides.treetext import read_tree, write_tree
from tests.helpers import count_asks, large_tree, random_tree

RIDING = (1, "newer", (0, "newer", "older", "older"), "older")
TEXT = "1(newer,0(newer,older,older),older)"

WRONG = [
    "", " ", "old", "olderr", "older ", " older", "Older", "OLDER", "olde", "clash", "same", "oldernewer",
    "older,newer",
    "0", "0(", "0()", "0(,,)", "()", "(older,older,older)", "0 (older,older,older)", "0(older,older,older",
    "0(older,older,older))", "0(older,older)", "0(older,older,older,older)", "0(older, older,older)",
    "0(older,older,older) ", "0(older,older,older)\n", "\n0(older,older,older)", "\t0(older,older,older)",
    "0(older;older;older)", "0[older,older,older]", "00(older,older,older)", "10(older,older,older)",
    "-1(older,older,older)", "+1(older,older,older)", "a(older,older,older)", "0(older,older,clash)",
    "0(older,older,1)", "0(older,older,1(older,older))", "0(older,older,older)0(older,older,older)",
    "0(0(older,older,older,older,older)", "0(older,older,0(older,older,older)", "0(,older,older)", "0(older,older,)",
    "0(older,,older)", "0((older),older,older)", "0(older,older,older,)", "0(older,older.older)",
    "0('older',older,older)",
]


class TreeTextTest(unittest.TestCase):
    def expect_bad(self, text):
        with self.assertRaises(BadText) as caught:
            read_tree(text)
        self.assertEqual(caught.exception.line, 1)
        self.assertIsInstance(caught.exception, FieldridesError)

    def test_written_forms(self):
        self.assertEqual(write_tree("older"), "older")
        self.assertEqual(write_tree("newer"), "newer")
        self.assertEqual(write_tree(RIDING), TEXT)

    def test_reading_the_written_form_returns_the_same_tree(self):
        self.assertEqual(read_tree(TEXT), RIDING)
        rng = random.Random(1)
        for _ in range(200):
            tree = random_tree(rng, 10, 5)
            self.assertEqual(read_tree(write_tree(tree)), tree)

    def test_every_digit_is_a_field(self):
        for field in range(10):
            tree = (field, "older", "newer", "older")
            self.assertEqual(read_tree(f"{field}(older,newer,older)"), tree)

    def test_wrong_texts(self):
        for text in WRONG:
            with self.subTest(text=text):
                self.expect_bad(text)

    def test_texts_that_are_almost_a_written_form(self):
        rng = random.Random(2)
        refused = 0
        for _ in range(3000):
            text = write_tree(random_tree(rng, 10, 3))
            at = rng.randrange(len(text) + 1)
            keep = at + rng.randrange(2)
            text = text[:at] + rng.choice(["", "0", "(", ")", ",", "older", "newer", " ", "o", "\n"]) + text[keep:]
            try:
                tree = read_tree(text)
            except BadText as error:
                self.assertEqual(error.line, 1)
                refused += 1
            else:
                self.assertEqual(write_tree(tree), text)
        self.assertGreater(refused, 1500)

    def test_cut_texts(self):
        for at in range(len(TEXT)):
            self.expect_bad(TEXT[:at])
            if at:
                self.expect_bad(TEXT[at:])

    def test_brackets_nested_60_deep(self):
        for place in (1, 2, 3):
            tree = "newer"
            for number in range(60):
                branches = ["older"] * 3
                branches[place - 1] = tree
                tree = (number // 6, *branches)
            text = write_tree(tree)
            self.assertEqual(read_tree(text), tree)
            self.expect_bad(text[:-1])
            self.expect_bad(text + ")")
        self.expect_bad("0(" * 60)
        self.expect_bad("(" * 60 + ")" * 60)

    def test_the_limits_of_trees_are_no_part_of_the_form(self):
        tree = large_tree(random.Random(3), 10, 900)
        self.assertEqual(count_asks(tree), 900)
        self.assertEqual(read_tree(write_tree(tree)), tree)


if __name__ == "__main__":
    unittest.main()
