import random
import unittest
from collections import Counter
from itertools import product

from fieldrides.errors import BadTree, FieldridesError, NotFair
from fieldrides.forests import Forest, turned_forest
from fieldrides.plain import PlainBook
from fieldrides.plainjudge import PlainVerdict, decide_plain
from fieldrides.trees import asked, ends, follow
from tests.helpers import (
    UNFAIR, all_forests, all_records, all_rows, disguised, end_of, large_tree, merged_by_words, path_of,
    random_forest, random_tree, tree_of_function,
)

ENDS = ("older", "newer", "clash")
OTHER = {"older": "newer", "newer": "older", "clash": "clash"}
FAIR = {fields: [forest for forest in all_forests(fields) if forest.fair] for fields in (1, 2, 3)}
PAIR = Forest([None, 0], ["up", "down"])


def opposite(row):
    return tuple(-mark for mark in row)


def side_of_hang(forest, hang, row):
    """What a plain field with this hang is taken from, word for word after point 63."""
    for step in () if hang is None else path_of(forest.parents, hang):
        if row[step] != 0:
            return "older" if (row[step] > 0) == (forest.kinds[step] == "up") else "newer"
    return "clash"


def hang_tree(forest, hang):
    """A tree that asks the fields of the path of the hang."""
    tree = "clash"
    for step in reversed(() if hang is None else path_of(forest.parents, hang)):
        low, high = ("newer", "older") if forest.kinds[step] == "up" else ("older", "newer")
        tree = (step, low, tree, high)
    return tree


def merged(forest, tree, older, newer):
    """The merge of two plain records, word for word after point 64."""
    ranked = merged_by_words(forest.parents, forest.kinds, older[0], newer[0])
    if older[1] == newer[1]:
        return ranked, older[1]
    row = tuple((x > y) - (x < y) for x, y in zip(older[0], newer[0]))
    return ranked, {"older": older[1], "newer": newer[1], "clash": (0,)}[end_of(tree, row)]


def hangs_by_rows(forest, tree):
    rows = all_rows(forest.fields)
    return [
        hang for hang in (None, *range(forest.fields))
        if all(end_of(tree, row) == side_of_hang(forest, hang, row) for row in rows)
    ]


def turned_tree(rng, tree):
    """The tree with another end somewhere."""
    if isinstance(tree, str):
        return rng.choice(ENDS)
    at = rng.randrange(1, 4)
    return tree[:at] + (turned_tree(rng, tree[at]),) + tree[at + 1:]


class DecidePlainTest(unittest.TestCase):
    def check(self, forest, tree, hangs=None):
        """The kind of the answer, when all that the document says of it was looked at."""
        verdict = decide_plain(forest, tree)
        hangs = hangs_by_rows(forest, tree) if hangs is None else hangs
        self.assertLessEqual(len(hangs), 1)
        self.assertIs(verdict.alike, len(hangs) == 1)
        if hangs:
            self.assertEqual((verdict.hang, verdict.records), (hangs[0], None))
            return "alike"
        self.assertIsNone(verdict.hang)
        self.check_records(forest, tree, verdict.records)
        return f"{len(verdict.records)} records"

    def check_records(self, forest, tree, records):
        self.assertIsInstance(records, tuple)
        for record in records:
            self.assertIsInstance(record, tuple)
            ranked, plain = record
            self.assertEqual((len(ranked), len(plain)), (forest.fields, 1))
            self.assertEqual((type(ranked), type(plain)), (tuple, tuple))
            self.assertLessEqual(set(ranked), {0, 1, 2})
            self.assertLessEqual(set(plain), {0, 1, 2, 3})
        if len(records) == 2:
            x, y = records
            self.assertNotEqual(merged(forest, tree, x, y), merged(forest, tree, y, x))
            return
        x, y, z = records
        first = merged(forest, tree, merged(forest, tree, x, y), z)
        self.assertNotEqual(first, merged(forest, tree, x, merged(forest, tree, y, z)))

    def test_the_end_clash_alone(self):
        for forest in FAIR[1] + FAIR[2] + FAIR[3]:
            self.assertEqual(self.check(forest, "clash"), "alike")
            self.assertIsNone(decide_plain(forest, "clash").hang)

    def test_the_other_ends_alone(self):
        for forest in FAIR[1] + FAIR[2] + FAIR[3]:
            self.assertEqual([self.check(forest, end) for end in ("older", "newer")], ["2 records"] * 2)

    def test_every_tree_of_one_ask(self):
        answers = Counter()
        for fields in (1, 2, 3):
            for forest in FAIR[fields]:
                for tree in product(range(fields), *[ENDS] * 3):
                    answers[self.check(forest, tree)] += 1
        self.assertEqual(sum(answers.values()), 27 * (1 * 2 + 2 * 12 + 3 * 128))
        self.assertEqual(len(answers), 3)

    def test_every_tree_of_two_asks(self):
        answers = Counter()
        for fields in (1, 2):
            for forest in FAIR[fields]:
                for field, other, at in product(range(fields), range(fields), (1, 2, 3)):
                    for found in product(ENDS, repeat=5):
                        below = (other, *found[:3])
                        tree = (field, *found[3:])
                        answers[self.check(forest, tree[:at] + (below,) + tree[at:])] += 1
        self.assertEqual(sum(answers.values()), 243 * 3 * (1 * 2 + 4 * 12))
        self.assertEqual(len(answers), 3)

    def test_every_merge_of_two_fields_that_sees_no_order(self):
        answers = Counter()
        for forest in FAIR[2]:
            for found in product(ENDS, repeat=4):
                sides = {(0, 0): "clash"}
                for row, end in zip(((0, 1), (1, -1), (1, 0), (1, 1)), found):
                    sides[row], sides[opposite(row)] = end, OTHER[end]
                answers[self.check(forest, tree_of_function(2, sides.get))] += 1
        self.assertEqual(answers, {"alike": 3 * 12, "3 records": 78 * 12})

    def test_merges_that_go_against_a_hang_at_few_rows(self):
        rng = random.Random(1)
        answers = Counter()
        for _ in range(3000):
            forest = random_forest(rng, rng.randrange(2, 5), fair=True)
            hang = rng.choice([None, *range(forest.fields)])
            sides = {}
            often = rng.choice((0.01, 0.05, 0.3))
            for row in all_rows(forest.fields):
                if row not in sides:
                    wrong = any(row) and rng.random() < often
                    sides[row] = rng.choice(ENDS) if wrong else side_of_hang(forest, hang, row)
                    sides[opposite(row)] = OTHER[sides[row]]
            answers[self.check(forest, tree_of_function(forest.fields, sides.get))] += 1
        self.assertEqual(set(answers), {"alike", "3 records"})
        self.assertGreater(min(answers.values()), 500)

    def test_wrong_rows_where_no_lone_field_and_no_two_fields_show_it(self):
        rng = random.Random(2)
        for _ in range(1500):
            forest = random_forest(rng, rng.randrange(3, 5), fair=True)
            hang = rng.choice([None, *range(forest.fields)])
            sides = {row: side_of_hang(forest, hang, row) for row in all_rows(forest.fields)}
            row = rng.choice([row for row in sides if row.count(0) <= forest.fields - 3])
            sides[row] = rng.choice([end for end in ENDS if end != sides[row]])
            sides[opposite(row)] = OTHER[sides[row]]
            tree = tree_of_function(forest.fields, sides.get)
            self.assertEqual(self.check(forest, tree, hangs=[]), "3 records")

    def test_trees_of_hangs(self):
        rng = random.Random(3)
        for fields in (1, 2, 3):
            for forest in FAIR[fields]:
                for hang in (None, *range(fields)):
                    self.assertEqual(self.check(forest, hang_tree(forest, hang)), "alike")
                    self.assertEqual(decide_plain(forest, hang_tree(forest, hang)).hang, hang)
        for _ in range(300):
            forest = random_forest(rng, rng.randrange(1, 7), fair=True)
            hang = rng.choice([None, *range(forest.fields)])
            tree = disguised(rng, hang_tree(forest, hang), forest.fields, 4)
            self.assertEqual(self.check(forest, tree, hangs=[hang]), "alike")
            other = turned_tree(rng, tree)
            if end_of_all(other, forest.fields) != end_of_all(tree, forest.fields):
                self.check(forest, other)

    def test_the_hang_of_another_forest(self):
        rng = random.Random(4)
        for _ in range(300):
            forest = random_forest(rng, rng.randrange(2, 6), fair=True)
            other = rng.choice((turned_forest(forest), random_forest(rng, forest.fields, fair=True)))
            self.check(forest, hang_tree(other, rng.randrange(forest.fields)))

    def test_random_trees(self):
        rng = random.Random(5)
        for _ in range(400):
            forest = random_forest(rng, rng.randrange(1, 6), fair=True)
            self.check(forest, random_tree(rng, forest.fields, 5, ends=ENDS))

    def test_large_trees(self):
        rng = random.Random(6)
        for fields in (1, 6):
            for _ in range(5):
                tree = large_tree(rng, fields, 400)
                self.check(random_forest(rng, fields, fair=True), tree)
        for _ in range(10):
            forest = random_forest(rng, 6, fair=True)
            hang = rng.randrange(6)
            self.assertEqual(self.check(forest, disguised(rng, hang_tree(forest, hang), 6, 10), hangs=[hang]), "alike")

    def test_it_is_the_merge_of_a_plain_book(self):
        for fields in (1, 2):
            records = list(product(all_records(fields, (0, 1)), [(0,), (1,), (2,)]))
            for forest in FAIR[fields]:
                for tree in product(range(fields), *[ENDS] * 3):
                    verdict = decide_plain(forest, tree)
                    if verdict.alike:
                        book = PlainBook(forest, [verdict.hang])
                        for x, y in product(records, repeat=2):
                            self.assertEqual(merged(forest, tree, x, y), book(x, y))

    def test_a_verdict_keeps_what_it_is_given(self):
        verdict = PlainVerdict(False, None, (((0,), (1,)), ((1,), (2,))))
        self.assertEqual((verdict.alike, verdict.hang, verdict.records), (False, None, (((0,), (1,)), ((1,), (2,)))))


def end_of_all(tree, fields):
    return [end_of(tree, row) for row in all_rows(fields)]


class TreesWithClashTest(unittest.TestCase):
    TREE = (1, "clash", (0, "newer", "clash", "older"), (1, "older", "clash", "newer"))

    def test_points_7_and_8(self):
        self.assertEqual(follow("clash", ()), "clash")
        self.assertEqual([follow(self.TREE, row) for row in ((0, -1), (-1, 0), (0, 0), (1, 1))],
                         ["clash", "newer", "clash", "newer"])
        self.assertEqual(ends(self.TREE), ("clash", "newer", "clash", "older", "older", "clash", "newer"))
        self.assertEqual(ends("clash"), ("clash",))
        self.assertEqual((asked(self.TREE), asked("clash")), ((0, 1), ()))


class WrongArgumentsTest(unittest.TestCase):
    def test_only_fair_forests(self):
        for forest, field in UNFAIR:
            for tree in ("clash", (9, "older", "older", "newer")):
                with self.assertRaises(NotFair) as caught:
                    decide_plain(forest, tree)
                self.assertEqual(caught.exception.field, field)
                self.assertIsInstance(caught.exception, FieldridesError)

    def test_trees_that_ask_a_field_that_is_not_there(self):
        for tree in (
            (2, "clash", "clash", "clash"),
            (0, "newer", (1, "older", (9, "clash", "older", "newer"), "newer"), "older"),
        ):
            with self.assertRaises(BadTree) as caught:
                decide_plain(PAIR, tree)
            self.assertIsNone(caught.exception.field)
            self.assertIsInstance(caught.exception, FieldridesError)


if __name__ == "__main__":
    unittest.main()
