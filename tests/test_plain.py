import random
import unittest
from itertools import product

from fieldrides.errors import BadPlace, BadRecord, FieldridesError, NoRecord, NotFair
from fieldrides.forests import Forest
from fieldrides.plain import PlainBook, clash_pair, count_plain
from tests.helpers import UNFAIR, all_forests, all_records, merged_by_words, path_of, random_forest, random_record

PAIR = Forest([None, 0], ["up", "down"])
BOOK = PlainBook(PAIR, [0, 1, None])
FAIR = {fields: [forest for forest in all_forests(fields) if forest.fair] for fields in (1, 2)}


def merged_plain(forest, hangs, older, newer):
    """The merge of two plain records, word for word after point 63."""
    values = []
    for hang, value, other in zip(hangs, older[1], newer[1]):
        path = () if hang is None else path_of(forest.parents, hang)
        unlike = [step for step in path if older[0][step] != newer[0][step]]
        if value == other:
            values.append(value)
        elif not unlike:
            values.append(0)
        else:
            higher = older[0][unlike[0]] > newer[0][unlike[0]]
            values.append(value if higher == (forest.kinds[unlike[0]] == "up") else other)
    return merged_by_words(forest.parents, forest.kinds, older[0], newer[0]), tuple(values)


def end_in_turn(forest, hangs, records):
    end = records[0]
    for record in records[1:]:
        end = merged_plain(forest, hangs, end, record)
    return end


def random_plain(rng, fields, plain, values=2):
    return random_record(rng, fields, values), tuple(rng.randrange(4) for _ in range(plain))


def random_hangs(rng, forest, plain):
    return [rng.choice([None, *range(forest.fields)]) for _ in range(plain)]


def pair_by_words(forest, hangs, records, which):
    end, path = end_in_turn(forest, hangs, records), ()
    if hangs[which] is not None:
        path = path_of(forest.parents, hangs[which])
    bearing = [i for i, record in enumerate(records) if all(record[0][f] == end[0][f] for f in path)]
    found = [
        (i, j) for i, j in product(bearing, repeat=2)
        if (i < j and records[i][1][which] != records[j][1][which]) or (i == j and records[i][1][which] == 0)
    ]
    return min(found) if found else None


class PlainBookTest(unittest.TestCase):
    def test_attributes(self):
        hangs = [0, None, 1]
        book = PlainBook(PAIR, hangs)
        self.assertEqual((book.forest.parents, book.hangs), ((None, 0), (0, None, 1)))
        hangs.append(1)
        self.assertEqual(book.hangs, (0, None, 1))
        self.assertEqual(PlainBook(PAIR, []).hangs, ())

    def test_single_merges(self):
        for older, newer, merged in (
            (((1, 1), (5, 5, 5)), ((1, 1), (5, 5, 5)), ((1, 1), (5, 5, 5))),
            (((1, 1), (5, 5, 5)), ((1, 1), (6, 6, 6)), ((1, 1), (0, 0, 0))),
            (((1, 1), (5, 5, 5)), ((2, 9), (6, 6, 6)), ((2, 9), (6, 6, 0))),
            (((1, 1), (5, 5, 5)), ((0, 0), (6, 6, 5)), ((1, 1), (5, 5, 5))),
            (((1, 1), (5, 5, 5)), ((1, 0), (6, 6, 6)), ((1, 0), (0, 6, 0))),
            (((1, 1), (5, 5, 5)), ((1, 2), (6, 6, 6)), ((1, 1), (0, 5, 0))),
            (((2, 1), (0, 0, 0)), ((1, 1), (6, 6, 6)), ((2, 1), (0, 0, 0))),
            (((1, 1), (0, 0, 0)), ((2, 1), (6, 6, 6)), ((2, 1), (6, 6, 0))),
        ):
            self.assertEqual(BOOK(older, newer), merged)
            self.assertEqual(BOOK(newer, older), merged)

    def test_equal_values_in_records_that_are_both_best(self):
        self.assertEqual(BOOK.end([((1, 1), (5, 5, 5)), ((0, 1), (7, 7, 5)), ((1, 1), (5, 5, 5))]), ((1, 1), (5, 5, 5)))
        self.assertEqual(BOOK.end([((1, 1), (5, 5, 5)), ((1, 2), (5, 7, 7)), ((1, 1), (5, 5, 5))]), ((1, 1), (5, 5, 0)))

    def test_no_plain_field(self):
        book = PlainBook(PAIR, [])
        self.assertEqual(book(((1, 1), ()), ((2, 5), ())), ((2, 5), ()))
        self.assertEqual(book.end([((1, 1), ())]), ((1, 1), ()))

    def test_one_record_is_its_own_end(self):
        self.assertEqual(BOOK.end([((1, 2), (0, 9, 10 ** 60))]), ((1, 2), (0, 9, 10 ** 60)))

    def test_all_small_records(self):
        for fields in (1, 2):
            for forest in FAIR[fields]:
                for hang in (None, *range(fields)):
                    book = PlainBook(forest, [hang])
                    records = list(product(all_records(fields, (0, 1)), [(0,), (1,), (2,)]))
                    for older, newer in product(records, repeat=2):
                        self.assertEqual(book(older, newer), merged_plain(forest, [hang], older, newer))

    def test_random_merges(self):
        rng = random.Random(1)
        for _ in range(600):
            forest = random_forest(rng, rng.randrange(1, 9), fair=True)
            hangs = random_hangs(rng, forest, rng.randrange(7))
            older, newer = (random_plain(rng, forest.fields, len(hangs)) for _ in range(2))
            self.assertEqual(PlainBook(forest, hangs)(older, newer), merged_plain(forest, hangs, older, newer))

    def test_all_orders_plans_and_repetitions(self):
        rng = random.Random(2)
        for _ in range(300):
            forest = random_forest(rng, rng.randrange(1, 6), fair=True)
            hangs = random_hangs(rng, forest, rng.randrange(7))
            book = PlainBook(forest, tuple(hangs))
            lot = [random_plain(rng, forest.fields, len(hangs)) for _ in range(rng.randrange(1, 7))]
            before = list(lot)
            end = book.end(lot)
            self.assertEqual(end, end_in_turn(forest, hangs, lot))
            for _ in range(3):
                left = lot + rng.choices(lot, k=3)
                rng.shuffle(left)
                while len(left) > 1:
                    at = rng.randrange(len(left) - 1)
                    left[at:at + 2] = [book(left[at], left[at + 1])]
                self.assertEqual(left, [end])
            self.assertEqual(lot, before)

    def test_200_records(self):
        rng = random.Random(3)
        forest = random_forest(rng, 8, fair=True)
        hangs = random_hangs(rng, forest, 6)
        lot = [random_plain(rng, 8, 6) for _ in range(200)]
        self.assertEqual(PlainBook(forest, hangs).end(lot), end_in_turn(forest, hangs, lot))


class ClashPairTest(unittest.TestCase):
    def test_single_lots(self):
        lot = [((1, 1), (5, 5, 5)), ((1, 0), (5, 6, 6)), ((0, 7), (0, 0, 0)), ((1, 0), (7, 6, 0))]
        self.assertEqual([clash_pair(BOOK, lot, which) for which in range(3)], [(0, 3), None, (0, 1)])
        self.assertEqual(clash_pair(BOOK, lot[2:], 1), None)
        self.assertEqual([clash_pair(BOOK, lot[2:3], which) for which in range(3)], [(0, 0)] * 3)
        self.assertEqual(clash_pair(BOOK, lot[2:], 2), (0, 0))

    def test_the_least_pair(self):
        same = [((1, 1), (value, value, value)) for value in (5, 5, 0, 6, 0)]
        for which in range(3):
            self.assertEqual(clash_pair(BOOK, same, which), (0, 2))
            self.assertEqual(clash_pair(BOOK, same[2:], which), (0, 0))
            self.assertEqual(clash_pair(BOOK, same[:2] + same[3:4], which), (0, 2))
            self.assertIsNone(clash_pair(BOOK, same[:2], which))
        worse = [((0, 1), (0, 0, 9)), ((1, 1), (4, 4, 9)), ((1, 1), (4, 4, 9)), ((1, 1), (0, 4, 9))]
        self.assertEqual([clash_pair(BOOK, worse, which) for which in range(3)], [(1, 3), None, None])

    def test_random_lots(self):
        rng = random.Random(4)
        found = 0
        for _ in range(1000):
            forest = random_forest(rng, rng.randrange(1, 6), fair=True)
            hangs = random_hangs(rng, forest, rng.randrange(1, 7))
            lot = [random_plain(rng, forest.fields, len(hangs)) for _ in range(rng.randrange(1, 7))]
            which = rng.randrange(len(hangs))
            book, before = PlainBook(forest, hangs), list(lot)
            pair = clash_pair(book, lot, which)
            self.assertEqual(pair, pair_by_words(forest, hangs, lot, which))
            self.assertIs(pair is None, book.end(lot)[1][which] != 0)
            self.assertEqual(lot, before)
            found += pair is None
        self.assertTrue(200 < found < 800)


class CountPlainTest(unittest.TestCase):
    def test_without_plain_fields(self):
        self.assertEqual([count_plain(fields, 0) for fields in (1, 2, 3, 4)], [2, 12, 128, 2000])

    def test_each_plain_field_has_a_choice_more_than_there_are_fields(self):
        for fields in range(1, 17):
            for plain in range(7):
                self.assertEqual(count_plain(fields, plain), (fields + 1) ** (fields - 1 + plain) * 2 ** fields)

    def test_books_that_merge_unlike(self):
        for fields, plain in ((1, 1), (1, 2), (2, 1), (2, 2)):
            records = list(product(all_records(fields, (0, 1)), product((1, 2), repeat=plain)))
            merges = {
                tuple(PlainBook(forest, hangs)(x, y) for x, y in product(records, repeat=2))
                for forest in FAIR[fields] for hangs in product((None, *range(fields)), repeat=plain)
            }
            self.assertEqual(len(merges), count_plain(fields, plain))


class WrongArgumentsTest(unittest.TestCase):
    def test_only_fair_forests(self):
        for forest, field in UNFAIR:
            for hangs in ([], [99], [None]):
                with self.assertRaises(NotFair) as caught:
                    PlainBook(forest, hangs)
                self.assertEqual(caught.exception.field, field)
                self.assertIsInstance(caught.exception, FieldridesError)

    def test_hangs_that_are_no_field(self):
        for hangs, place in (([2], 2), ([None, -1, 7], -1), ([0, 1, 0, 9, -1], 9), ((1, 10 ** 20), 10 ** 20)):
            with self.assertRaises(BadPlace) as caught:
                PlainBook(PAIR, hangs)
            self.assertEqual(caught.exception.place, place)
            self.assertIsInstance(caught.exception, FieldridesError)

    def test_no_record(self):
        for call in (lambda: BOOK.end([]), lambda: clash_pair(BOOK, [], 99), lambda: clash_pair(BOOK, [], 0)):
            with self.assertRaises(NoRecord) as caught:
                call()
            self.assertIsInstance(caught.exception, FieldridesError)

    def test_parts_of_wrong_lengths(self):
        good = ((1, 1), (5, 5, 5))
        bad = [
            ((1,), (5, 5, 5)), ((1, 1), (5, 5)), ((1, 1), (5, 5, 5, 5)), ((), ()), ((1, 1, 1), (5, 5, 5)), ((1, 1), ()),
        ]
        for record in bad:
            for call in (
                lambda: BOOK(record, good), lambda: BOOK(good, record), lambda: BOOK(record, bad[0]),
                lambda: BOOK.end([good, record, bad[0]]), lambda: BOOK.end([record]),
                lambda: clash_pair(BOOK, [good, good, record, bad[1]], 99), lambda: clash_pair(BOOK, [record], 0),
            ):
                with self.assertRaises(BadRecord) as caught:
                    call()
                self.assertEqual(caught.exception.record, record)
                self.assertIsInstance(caught.exception, FieldridesError)

    def test_plain_fields_that_are_none(self):
        for which in (-1, 3, 10 ** 20):
            for lot in ([((1, 1), (5, 5, 5))], [((1, 1), (0, 0, 0))] * 2):
                with self.assertRaises(BadPlace) as caught:
                    clash_pair(BOOK, lot, which)
                self.assertEqual(caught.exception.place, which)
        with self.assertRaises(BadPlace) as caught:
            clash_pair(PlainBook(PAIR, []), [((1, 1), ())], 0)
        self.assertEqual(caught.exception.place, 0)


if __name__ == "__main__":
    unittest.main()
