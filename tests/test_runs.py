import random
import unittest
from itertools import product
from math import prod

from fieldrides.errors import BadRecord, BadSizes, FieldridesError, NotFair
from fieldrides.forests import Forest
from fieldrides.runs import changes_left, count_below, count_runs, longest_run, rank_of, run_steps
from tests.helpers import UNFAIR, all_forests, below_by_words, merged_by_words, random_forest

PAIR = Forest([None, 0], ["up", "down"])
CHAIN = Forest([2, None, 1], ["up", "down", "up"])
STAR = Forest([None, 0, 0, 0], ["down", "up", "down", "up"])
FAIR = {fields: [forest for forest in all_forests(fields) if forest.fair] for fields in (1, 2, 3)}


class Box:
    """The records of a box, with all that can be told by comparing each two of them."""

    def __init__(self, forest, sizes):
        self.records = list(product(*map(range, sizes)))
        self.lower = {
            y: [x for x in self.records if x != y and below_by_words(forest, x, y)] for y in self.records
        }
        self.higher = {record: [] for record in self.records}
        for y, lower in self.lower.items():
            for x in lower:
                self.higher[x].append(y)
        self.ranks = self.longest(self.lower)
        self.left = self.longest(self.higher)
        self.steps = max(self.ranks.values())

    def longest(self, nexts):
        steps = {}
        # Of two records, the one with fewer records behind it comes first, since being below is transitive.
        for record in sorted(self.records, key=lambda record: len(nexts[record])):
            steps[record] = max([1 + steps[other] for other in nexts[record]], default=0)
        return steps

    def count_runs(self):
        """The runs with the most records, counted from their first records on."""
        ways = {}
        for record in sorted(self.records, key=lambda record: self.ranks[record]):
            before = [other for other in self.lower[record] if self.ranks[other] == self.ranks[record] - 1]
            ways[record] = sum(ways[other] for other in before) if self.ranks[record] else 1
        return sum(ways[record] for record in self.records if self.ranks[record] == self.steps)

    def list_runs(self):
        """The runs with the most records, one by one."""
        runs = [[record] for record in self.records if self.ranks[record] == 0]
        for rank in range(1, self.steps + 1):
            runs = [run + [after] for run in runs for after in self.higher[run[-1]] if self.ranks[after] == rank]
        return runs


def random_sizes(rng, fields, most):
    while True:
        sizes = [rng.choice((1, 1, 2, 2, 3, 4, 5, 7, 9)) for _ in range(fields)]
        if prod(sizes) <= most:
            return sizes


class BoxTest(unittest.TestCase):
    def check(self, forest, sizes, counted=True):
        box = Box(forest, sizes)
        given = list(sizes)
        self.assertEqual(run_steps(forest, given), box.steps)
        run = longest_run(forest, given)
        self.assertIsInstance(run, list)
        self.assertEqual(len(run), box.steps + 1)
        for record in run:
            self.assertIn(record, box.lower)
        for record, after in zip(run, run[1:]):
            self.assertIn(record, box.lower[after])
        for record in box.records:
            self.assertEqual(rank_of(forest, given, record), box.ranks[record])
            self.assertEqual(changes_left(forest, given, record), box.left[record])
            self.assertEqual(count_below(forest, given, record), len(box.lower[record]) + 1)
        if counted:
            self.assertEqual(count_runs(forest, given), box.count_runs())
        self.assertEqual(given, list(sizes))
        return box

    def test_all_forests_of_few_fields(self):
        for forest in FAIR[1]:
            for size in (1, 2, 3, 7):
                self.check(forest, [size])
        for forest in FAIR[2]:
            for sizes in product((1, 2, 3), repeat=2):
                self.check(forest, sizes)
        for forest in FAIR[3]:
            for sizes in ((2, 2, 2), (1, 2, 3), (3, 1, 2), (2, 3, 1)):
                self.check(forest, sizes)

    def test_random_boxes(self):
        rng = random.Random(1)
        for _ in range(60):
            forest = random_forest(rng, rng.randrange(3, 9), fair=True)
            self.check(forest, random_sizes(rng, forest.fields, 64))

    def test_boxes_of_64_records(self):
        for forest, sizes in (
            (Forest([None], ["down"]), [64]), (PAIR, [8, 8]), (PAIR, [1, 64]), (PAIR, [64, 1]),
            (CHAIN, [4, 4, 4]), (STAR, [2, 2, 4, 4]), (Forest([None] * 6, ["up"] * 6), [2] * 6),
            (Forest([None, 0, 0, 0, 0, 0], ["up"] * 6), [2] * 6),
            (Forest([None, 0, 0, 1, 1, 2], ["down"] * 6), [2] * 6),
        ):
            self.assertEqual(prod(sizes), 64)
            self.check(forest, sizes)

    def test_boxes_of_400_records(self):
        for forest, sizes in (
            (Forest([None], ["up"]), (400,)), (PAIR, (20, 20)), (Forest([None, None], ["up", "down"]), (20, 20)),
            (CHAIN, (5, 8, 10)), (STAR, (4, 4, 5, 5)),
        ):
            self.assertEqual(prod(sizes), 400)
            box = self.check(forest, sizes, counted=False)
            self.assertEqual(len(box.records), 400)

    def test_runs_listed_one_by_one(self):
        rng = random.Random(2)
        listed = 0
        while listed < 60:
            forest = random_forest(rng, rng.randrange(1, 6), fair=True)
            sizes = random_sizes(rng, forest.fields, 64)
            if count_runs(forest, sizes) <= 3000:
                runs = Box(forest, sizes).list_runs()
                self.assertEqual(count_runs(forest, sizes), len(runs))
                self.assertIn(longest_run(forest, sizes), runs)
                listed += 1


class SingleBoxesTest(unittest.TestCase):
    def test_a_chain_of_two_fields(self):
        self.assertEqual(run_steps(PAIR, [2, 3]), 5)
        self.assertEqual(longest_run(PAIR, [2, 3]), [(0, 2), (0, 1), (0, 0), (1, 2), (1, 1), (1, 0)])
        self.assertEqual([rank_of(PAIR, (2, 3), record) for record in ((0, 2), (0, 0), (1, 2), (1, 0))], [0, 2, 3, 5])
        self.assertEqual(changes_left(PAIR, (2, 3), (0, 0)), 3)
        self.assertEqual(count_below(PAIR, (2, 3), (1, 1)), 5)
        self.assertEqual(count_runs(PAIR, (2, 3)), 1)

    def test_roots_alone(self):
        roots = Forest([None] * 3, ["up", "up", "down"])
        self.assertEqual(run_steps(roots, [3, 4, 2]), 6)
        self.assertEqual(count_runs(roots, [3, 4, 2]), 60)
        self.assertEqual(count_below(roots, [3, 4, 2], (1, 2, 0)), 12)
        self.assertEqual(count_below(roots, [3, 4, 2], (1, 2, 1)), 6)
        self.assertEqual(rank_of(roots, [3, 4, 2], (1, 2, 1)), 3)

    def test_a_box_of_one_record(self):
        for forest in (PAIR, CHAIN, STAR, Forest([None], ["up"]), Forest([None] * 8, ["down"] * 8)):
            sizes, record = [1] * forest.fields, (0,) * forest.fields
            self.assertEqual(run_steps(forest, sizes), 0)
            self.assertEqual(longest_run(forest, sizes), [record])
            self.assertEqual((rank_of(forest, sizes, record), changes_left(forest, sizes, record)), (0, 0))
            self.assertEqual((count_below(forest, sizes, record), count_runs(forest, sizes)), (1, 1))

    def test_the_worst_and_the_best_record(self):
        rng = random.Random(3)
        for _ in range(50):
            forest = random_forest(rng, rng.randrange(1, 9), fair=True)
            sizes = random_sizes(rng, forest.fields, 400)
            steps = run_steps(forest, sizes)
            worst = tuple(0 if kind == "up" else size - 1 for kind, size in zip(forest.kinds, sizes))
            best = tuple(size - 1 if kind == "up" else 0 for kind, size in zip(forest.kinds, sizes))
            run = longest_run(forest, sizes)
            self.assertEqual((run[0], run[-1], len(run)), (worst, best, steps + 1))
            self.assertEqual((rank_of(forest, sizes, worst), changes_left(forest, sizes, worst)), (0, steps))
            self.assertEqual((rank_of(forest, sizes, best), changes_left(forest, sizes, best)), (steps, 0))
            self.assertEqual((count_below(forest, sizes, worst), count_below(forest, sizes, best)), (1, prod(sizes)))

    def test_a_copy_that_merges_changes_at_most_so_many_times(self):
        rng = random.Random(4)
        for _ in range(100):
            forest = random_forest(rng, rng.randrange(1, 6), fair=True)
            sizes = random_sizes(rng, forest.fields, 100)
            copy = tuple(rng.randrange(size) for size in sizes)
            left, changes = changes_left(forest, sizes, copy), 0
            for _ in range(60):
                other = tuple(rng.randrange(size) for size in sizes)
                after = merged_by_words(forest.parents, forest.kinds, copy, other)
                if after != copy:
                    changes += 1
                    self.assertGreater(rank_of(forest, sizes, after), rank_of(forest, sizes, copy))
                copy = after
            self.assertLessEqual(changes, left)

    def test_sizes_as_tuple_or_list_and_new_lists(self):
        sizes = [2, 3]
        run = longest_run(PAIR, sizes)
        self.assertEqual(longest_run(PAIR, tuple(sizes)), run)
        run.append("x")
        self.assertEqual(len(longest_run(PAIR, sizes)), 6)
        self.assertEqual(sizes, [2, 3])

    def test_16_fields(self):
        forest = Forest([None, *range(15)], ["up"] * 16)
        self.assertEqual(run_steps(forest, [2] * 8 + [1] * 8), 255)
        self.assertEqual(len(longest_run(forest, [2] * 8 + [1] * 8)), 256)


class WrongArgumentsTest(unittest.TestCase):
    WITH_SIZES = (run_steps, longest_run, count_runs)
    WITH_RECORD = (rank_of, changes_left, count_below)

    def all_calls(self, record):
        for call in self.WITH_SIZES:
            yield call
        for call in self.WITH_RECORD:
            yield lambda forest, sizes, call=call: call(forest, sizes, record)

    def test_only_fair_forests(self):
        for forest, field in UNFAIR:
            for sizes in ([], [0], [2] * forest.fields):
                for call in self.all_calls(()):
                    with self.assertRaises(NotFair) as caught:
                        call(forest, sizes)
                    self.assertEqual(caught.exception.field, field)

    def test_sizes_that_make_no_box(self):
        for sizes in ([], [2], [2, 2, 2], [0, 2], [2, 0], (2, -1), (-5, -5), (10 ** 60, 0)):
            for record in ((0, 0), (), (5, 5)):
                for call in self.all_calls(record):
                    with self.assertRaises(BadSizes) as caught:
                        call(PAIR, sizes)
                    self.assertIsInstance(caught.exception, FieldridesError)

    def test_records_that_are_not_in_the_box(self):
        for record in ((), (0,), (0, 0, 0), (2, 0), (0, 3), (-1, 0), (0, -1), (10 ** 60, 0), (1, 10 ** 60), (2, 3)):
            for call in self.WITH_RECORD:
                with self.assertRaises(BadRecord) as caught:
                    call(PAIR, [2, 3], record)
                self.assertEqual(caught.exception.record, record)


if __name__ == "__main__":
    unittest.main()
