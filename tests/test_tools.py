import unittest

from fieldrides.errors import BadRecord
from fieldrides.tools import better, raised, sign, signs

BIG = 10 ** 59


class SignsTest(unittest.TestCase):
    def test_sign_tells_whether_the_older_has_less_the_same_or_more(self):
        self.assertEqual([sign(1, 2), sign(2, 2), sign(3, 2)], [-1, 0, 1])
        self.assertEqual([sign(-2, -1), sign(0, 0), sign(0, -1)], [-1, 0, 1])

    def test_sign_of_numbers_with_60_digits(self):
        self.assertEqual([sign(BIG, BIG + 1), sign(BIG, BIG), sign(BIG + 1, BIG)], [-1, 0, 1])

    def test_signs_is_the_tuple_of_the_signs_of_all_fields(self):
        self.assertEqual(signs((1, 5, 7, 0), (2, 5, 4, 0)), (-1, 0, 1, 0))
        self.assertEqual(signs((4,), (3,)), (1,))

    def test_signs_names_the_newer_record_if_the_lengths_differ(self):
        for older, newer in (((1, 2), (1,)), ((1,), (1, 2)), ((), (5,)), ((5,), ())):
            with self.assertRaises(BadRecord) as caught:
                signs(older, newer)
            self.assertEqual(caught.exception.record, newer)


class KindsTest(unittest.TestCase):
    def test_better_goes_by_the_kind(self):
        pairs = ((1, 2), (2, 2), (2, 1))
        self.assertEqual([better("up", *pair) for pair in pairs], [False, False, True])
        self.assertEqual([better("down", *pair) for pair in pairs], [True, False, False])

    def test_no_value_is_better_for_first_and_last(self):
        for kind in ("first", "last"):
            for pair in ((1, 2), (2, 2), (2, 1)):
                self.assertIs(better(kind, *pair), False)

    def test_raised_subtracts_for_down_and_adds_otherwise(self):
        self.assertEqual([raised(kind, 5, 3) for kind in ("up", "down", "first", "last")], [8, 2, 8, 8])
        self.assertEqual([raised(kind, -5, -3) for kind in ("up", "down", "first", "last")], [-8, -2, -8, -8])
        self.assertEqual([raised(kind, BIG, 0) for kind in ("up", "down", "first", "last")], [BIG] * 4)

    def test_a_value_raised_by_1_is_better(self):
        for kind in ("up", "down"):
            self.assertIs(better(kind, raised(kind, BIG, 1), BIG), True)


if __name__ == "__main__":
    unittest.main()
