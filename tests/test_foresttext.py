import random
import unittest

from fieldrides.errors import BadText, WordsClash
from fieldrides.forests import Forest
from fieldrides.foresttext import read_forest, write_forest
from tests.helpers import random_forest


class ForestTextTest(unittest.TestCase):
    def expect_bad(self, text, line):
        with self.assertRaises(BadText) as caught:
            read_forest(text)
        self.assertEqual(caught.exception.line, line, text)

    def test_written_form(self):
        forest = Forest([None, 0, 1, None], ["up", "down", "first", "last"])
        self.assertEqual(write_forest(forest), "0: +0\n1: +0 -1\n2: +0 -1 <2\n3: >3")

    def test_reading_the_written_form_returns_the_same_forest(self):
        rng = random.Random(1)
        for fields in range(1, 17):
            for _ in range(10):
                forest = random_forest(rng, fields)
                again = read_forest(write_forest(forest))
                self.assertIsInstance(again, Forest)
                self.assertEqual((again.parents, again.kinds), (forest.parents, forest.kinds))

    def test_the_empty_text_and_empty_lines(self):
        self.expect_bad("", 1)
        self.expect_bad("\n", 1)
        self.expect_bad("0: +0\n", 2)
        self.expect_bad("0: +1 +0\n", 2)
        self.expect_bad("\n1: +1", 1)

    def test_16_fields_and_17(self):
        lines = [f"{field}: +{field}" for field in range(18)]
        self.assertEqual(read_forest("\n".join(lines[:16])).fields, 16)
        self.expect_bad("\n".join(lines[:17]), 17)
        self.expect_bad("\n".join(lines), 17)
        self.expect_bad("\n".join(lines[:16]) + "\n", 17)
        self.expect_bad("\n".join(["0: +16 +0"] + lines[1:17]), 17)
        self.expect_bad("\n".join(["0: +16 +0"] + lines[1:16]), 1)
        self.expect_bad("\n".join(lines[:4] + [""] + lines[5:]), 5)

    def test_wrong_lines(self):
        lines = (
            "1: +0", "0 +0", "0:+0", "0:  +0", "0: +0 ", " 0: +0", "00: +0", "0:\t+0", "0: +0\t",
            "0: ", "0:", "+0", ": +0",
            "0: 0", "0: +", "0: ++0", "0: +00", "0: *0", "0: +-0", "0: + 0", "0: +0 +0", "0: +1", "0: +1 +0  +2",
            "0: +0 +1", "0: <1 +0", "0: >1 +0", "0: <0 >0", "0: +3 +0", "0: +0\r", "0: +a", "0: +1 +1 +0", "0: +1,+0",
            "0: +" + "9" * 5000 + " +0", "0: +1\t+0", "0: +01 +0", "-0: +0", "0: +0 +1 +0", "0: <0 +1 +0",
        )
        for line in lines:
            with self.subTest(line=line):
                self.expect_bad(line + "\n1: +1\n2: +2", 1)

    def test_the_first_wrong_line_counts(self):
        self.expect_bad("0: +0\n2: +1\n1: +2", 2)
        self.expect_bad("0: +0\n1: +1\n2: +3 +2", 3)
        self.expect_bad("0: +0\n1: <0 +1\n2: x", 2)

    def test_words_that_clash_come_after_wrong_lines(self):
        with self.assertRaises(WordsClash) as caught:
            read_forest("0: +1 +0\n1: +0 +1")
        self.assertEqual((caught.exception.first, caught.exception.second), (0, 1))
        with self.assertRaises(WordsClash) as caught:
            read_forest("0: +0\n1: >1\n2: -0 +2\n3: +1 <3")
        self.assertEqual((caught.exception.first, caught.exception.second), (0, 2))
        self.expect_bad("0: +1 +0\n1: +0 +1\n2: +3", 3)


if __name__ == "__main__":
    unittest.main()
