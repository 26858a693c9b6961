import random
import unittest
from itertools import product

from fieldrides.errors import BadLetter, BadPlace, BadRecord, FieldridesError, NotFair
from fieldrides.forests import Forest
from fieldrides.letters import least_letter, left_out_shows, receive, winning_fields
from tests.helpers import (
    UNFAIR, all_forests, all_records, below_by_words, merged_by_words, path_of, random_forest, random_record,
)

PAIR = Forest([None, 0], ["up", "up"])
FORK = Forest([None, 0, 0, 1, 1], ["up", "down", "up", "up", "down"])
FAIR = {fields: [forest for forest in all_forests(fields) if forest.fair] for fields in (1, 2, 3)}


def merged(forest, x, y):
    return merged_by_words(forest.parents, forest.kinds, x, y)


def received_by_words(forest, copy, letter):
    """Point 55 word for word: each field in the letter by its path alone, which is in the letter, too."""
    after = []
    for field, value in enumerate(letter):
        path = path_of(forest.parents, field)
        unlike = [step for step in path if value is not None and letter[step] != copy[step]]
        taken = bool(unlike) and (letter[unlike[0]] > copy[unlike[0]]) == (forest.kinds[unlike[0]] == "up")
        after.append(value if taken else copy[field])
    return tuple(after)


def winning_by_words(forest, known, copy):
    found = []
    for field in range(forest.fields):
        unlike = [step for step in path_of(forest.parents, field) if known[step] != copy[step]]
        if unlike and (copy[unlike[0]] > known[unlike[0]]) == (forest.kinds[unlike[0]] == "up"):
            found.append(field)
    return tuple(found)


def random_letter(rng, forest):
    record = list(random_record(rng, forest.fields))
    for field in sorted(range(forest.fields), key=lambda field: len(path_of(forest.parents, field))):
        parent = forest.parents[field]
        if rng.random() < 0.3 or (parent is not None and record[parent] is None):
            record[field] = None
    return tuple(record)


class ReceiveTest(unittest.TestCase):
    def test_single_letters(self):
        for copy, letter, after in (
            ((4, 9), (None, None), (4, 9)), ((4, 9), (5, None), (5, 9)), ((4, 9), (5, 1), (5, 1)),
            ((4, 9), (3, 12), (4, 9)), ((4, 9), (4, 12), (4, 12)), ((4, 9), (4, 9), (4, 9)),
            ((4, 9), (4, None), (4, 9)),
        ):
            self.assertEqual(receive(PAIR, copy, letter), after)

    def test_letters_that_leave_out_some_branches(self):
        copy = (1, 5, 5, 5, 5)
        for letter, after in (
            ((2, None, 0, None, None), (2, 5, 0, 5, 5)), ((1, 4, None, 0, None), (1, 4, 5, 0, 5)),
            ((1, 6, None, 9, 0), (1, 5, 5, 5, 5)), ((1, None, 6, None, None), (1, 5, 6, 5, 5)),
            ((None,) * 5, copy), ((0, 0, 9, 9, 0), copy), ((2, 9, 0, 0, 9), (2, 9, 0, 0, 9)),
        ):
            self.assertEqual(receive(FORK, copy, letter), after)

    def test_random_letters(self):
        rng = random.Random(1)
        for _ in range(1500):
            forest = random_forest(rng, rng.randrange(1, 9), fair=True)
            copy, letter = random_record(rng, forest.fields), random_letter(rng, forest)
            self.assertEqual(receive(forest, copy, letter), received_by_words(forest, copy, letter))

    def test_a_whole_letter_is_merged(self):
        rng = random.Random(2)
        for _ in range(300):
            forest = random_forest(rng, rng.randrange(1, 9), fair=True)
            copy, letter = random_record(rng, forest.fields), random_record(rng, forest.fields)
            self.assertEqual(receive(forest, copy, letter), merged(forest, copy, letter))

    def test_a_field_whose_parent_is_left_out(self):
        for letter, field in (
            ((None, 1, None, None, None), 1), ((None, 0, 0, 0, 0), 1), ((1, None, 1, None, 0), 4),
            ((1, None, None, 0, 0), 3), ((None, None, 7, 0, None), 2),
        ):
            with self.assertRaises(BadLetter) as caught:
                receive(FORK, (0,) * 5, letter)
            self.assertEqual(caught.exception.field, field)
            self.assertIsInstance(caught.exception, FieldridesError)
        with self.assertRaises(BadLetter) as caught:
            receive(Forest([2, 0, None], ["up"] * 3), (0, 0, 0), (0, 0, None))
        self.assertEqual(caught.exception.field, 0)

    def test_wrong_lengths(self):
        for copy, letter, bad in (
            ((1,), (None, 1), (1,)), ((1, 2, 3), (1,), (1, 2, 3)), ((1, 2), (None,), (None,)), ((1, 2), (), ()),
            ((1, 2), (None, 1, 1), (None, 1, 1)), ((), (None, 1), ()),
        ):
            with self.assertRaises(BadRecord) as caught:
                receive(PAIR, copy, letter)
            self.assertEqual(caught.exception.record, bad)


class LeastLetterTest(unittest.TestCase):
    def test_copies_that_are_equal_to_known(self):
        for forest in FAIR[1] + FAIR[2] + FAIR[3] + [FORK]:
            record = tuple(range(forest.fields))
            self.assertEqual(winning_fields(forest, record, record), ())
            self.assertEqual(least_letter(forest, record, record), (None,) * forest.fields)
            for field in range(forest.fields):
                self.assertIsNone(left_out_shows(forest, record, record, field))

    def test_copies_that_win_in_nothing(self):
        self.assertEqual(winning_fields(FORK, (2, 0, 0, 0, 0), (1, -5, 9, 9, -9)), ())
        self.assertEqual(least_letter(FORK, (2, 0, 0, 0, 0), (1, -5, 9, 9, -9)), (None,) * 5)

    def test_single_letters(self):
        for known, copy, winning, letter in (
            ((4, 9), (5, 9), (0, 1), (5, 9)), ((4, 9), (4, 10), (1,), (4, 10)), ((4, 9), (3, 10), (), (None, None)),
        ):
            self.assertEqual(winning_fields(PAIR, known, copy), winning)
            self.assertEqual(least_letter(PAIR, known, copy), letter)
        known = (1, 5, 5, 5, 5)
        self.assertEqual(winning_fields(FORK, known, (1, 6, 6, 9, 0)), (2,))
        self.assertEqual(least_letter(FORK, known, (1, 6, 6, 9, 0)), (1, None, 6, None, None))
        self.assertEqual(winning_fields(FORK, known, (1, 4, 5, 0, 9)), (1, 3, 4))
        self.assertEqual(least_letter(FORK, known, (1, 4, 5, 0, 9)), (1, 4, None, 0, 9))
        self.assertEqual(least_letter(FORK, known, (1, 5, 4, 6, 9)), (1, 5, None, 6, None))

    def check(self, forest, known, copy, receivers):
        winning = winning_fields(forest, known, copy)
        self.assertEqual(winning, winning_by_words(forest, known, copy))
        letter = least_letter(forest, known, copy)
        needed = {step for field in winning for step in path_of(forest.parents, field)}
        self.assertEqual(letter, tuple(v if f in needed else None for f, v in enumerate(copy)))
        for record in receivers:
            self.assertEqual(receive(forest, record, letter), merged(forest, record, copy))
        for field in range(forest.fields):
            shown = left_out_shows(forest, known, copy, field)
            if field not in winning:
                self.assertIsNone(shown)
                continue
            self.assertIsInstance(shown, tuple)
            self.assertTrue(below_by_words(forest, known, shown))
            self.assertNotEqual(merged(forest, shown, copy)[field], shown[field])

    def test_all_small_records(self):
        for fields in (1, 2, 3):
            records = all_records(fields, (0, 1, 2) if fields < 3 else (0, 1))
            for forest in FAIR[fields]:
                above = {x: [y for y in records if below_by_words(forest, x, y)] for x in records}
                for known, copy in product(records, repeat=2):
                    self.check(forest, known, copy, above[known])

    def test_random_records(self):
        rng = random.Random(3)
        for _ in range(600):
            forest = random_forest(rng, rng.randrange(3, 9), fair=True)
            known, copy = random_record(rng, forest.fields), random_record(rng, forest.fields)
            others = [random_record(rng, forest.fields, 4) for _ in range(5)]
            self.check(forest, known, copy, [known] + [merged(forest, known, other) for other in others])

    def test_fields_that_are_none(self):
        for field in (-1, 2, 10 ** 20):
            for copy in ((4, 9), (5, 5), (0, 0)):
                with self.assertRaises(BadPlace) as caught:
                    left_out_shows(PAIR, (4, 9), copy, field)
                self.assertEqual(caught.exception.place, field)
                self.assertIsInstance(caught.exception, FieldridesError)


class WrongArgumentsTest(unittest.TestCase):
    WITH_KNOWN = (
        winning_fields, least_letter, lambda forest, known, copy: left_out_shows(forest, known, copy, 99),
    )

    def test_only_fair_forests(self):
        for forest, field in UNFAIR:
            for call in self.WITH_KNOWN + (receive,):
                with self.assertRaises(NotFair) as caught:
                    call(forest, (), (None,))
                self.assertEqual(caught.exception.field, field)
                self.assertIsInstance(caught.exception, FieldridesError)

    def test_the_first_record_of_a_wrong_length(self):
        for known, copy, bad in (
            ((1,), (1, 2), (1,)), ((), (1, 2, 3), ()), ((1, 2), (1,), (1,)), ((1, 2), (1, 2, 3), (1, 2, 3)),
        ):
            for call in self.WITH_KNOWN:
                with self.assertRaises(BadRecord) as caught:
                    call(PAIR, known, copy)
                self.assertEqual(caught.exception.record, bad)


if __name__ == "__main__":
    unittest.main()
