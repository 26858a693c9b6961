import random
import unittest
from itertools import permutations

from fieldrides.books import Book
from fieldrides.errors import BadPlace, BadRecord, FieldridesError, NoPlan, NoRecord
from fieldrides.forests import Forest, book_of
from fieldrides.judge import decide
from fieldrides.plans import all_ends, plan_for, run_plan, unlike_plans
from tests.helpers import all_forests, all_records, random_forest, random_row, random_tree

# Each of the two fields rides on the other one.
CROSSED = Book([
    (1, "newer", (0, "newer", "older", "older"), "older"), (0, "newer", (1, "newer", "older", "older"), "older"),
])
UP = Book([(0, "newer", "older", "older")])


def plans_of(indices):
    """All plans that use these indices from left to right."""
    if len(indices) == 1:
        return [indices[0]]
    return [(left, right) for at in range(1, len(indices))
            for left in plans_of(indices[:at]) for right in plans_of(indices[at:])]


def all_plans(many, order):
    orders = [tuple(range(many))] if order == "rows" else permutations(range(many))
    return [plan for indices in orders for plan in plans_of(indices)]


def indices_in(plan):
    return [plan] if isinstance(plan, int) else indices_in(plan[0]) + indices_in(plan[1])


def end_of_plan(book, plan, records):
    if isinstance(plan, int):
        return records[plan]
    return book(end_of_plan(book, plan[0], records), end_of_plan(book, plan[1], records))


def nested(depth, index=0, left=True):
    plan = index
    for _ in range(depth):
        plan = (plan, index) if left else (index, plan)
    return plan


def random_book(rng, fields, depth=3):
    return Book([random_tree(rng, fields, depth) for _ in range(fields)])


class RunPlanTest(unittest.TestCase):
    def test_an_index_alone(self):
        self.assertEqual(run_plan(UP, 0, [(4,)]), (4,))
        self.assertEqual(run_plan(UP, 1, [(4,), (2,)]), (2,))

    def test_the_first_plan_gives_the_older_record(self):
        book = book_of(Forest([None, None], ["first", "last"]))
        records = [(0, 0), (1, 1), (2, 2)]
        self.assertEqual(run_plan(book, (1, 0), records), (1, 0))
        self.assertEqual(run_plan(book, ((2, 0), 1), records), (2, 1))
        self.assertEqual(run_plan(book, (0, (1, 2)), records), (0, 2))

    def test_the_example_of_the_document(self):
        records = [(0, 1), (0, 1), (1, 0)]
        self.assertEqual(run_plan(CROSSED, ((0, 1), 2), records), (0, 0))
        self.assertEqual(run_plan(CROSSED, (0, (1, 2)), records), (0, 1))

    def test_indices_used_several_times_or_not_at_all(self):
        records = [(5,), (7,), (9,)]
        self.assertEqual(run_plan(UP, ((0, 0), (1, (0, 1))), records), (7,))
        self.assertEqual(run_plan(UP, (0, 0), records), (5,))

    def test_deep_plans_and_many_indices(self):
        self.assertEqual(run_plan(UP, nested(60), [(3,)]), (3,))
        self.assertEqual(run_plan(UP, nested(60, 1, left=False), [(3,), (4,)]), (4,))
        rng = random.Random(1)
        book = random_book(rng, 3)
        records = random_row(rng, 3, 200)
        plans = [nested(7, index) for index in range(0, 200, 8)]
        while len(plans) > 1:
            plans[:2] = [(plans[0], plans[1])]
        self.assertEqual(len(indices_in(plans[0])), 200)
        self.assertEqual(run_plan(book, plans[0], records), end_of_plan(book, plans[0], records))

    def test_random_plans(self):
        rng = random.Random(2)
        for _ in range(200):
            book = random_book(rng, rng.randrange(1, 4))
            records = random_row(rng, book.fields, 4)
            plan = rng.choice(all_plans(4, "any"))
            self.assertEqual(run_plan(book, plan, records), end_of_plan(book, plan, records))

    def test_the_leftmost_index_that_is_not_in_the_list(self):
        records = [(1,), (2,)]
        for plan, place in ((2, 2), (-1, -1), ((0, 5), 5), (((0, 7), 1), 7), ((0, (1, -2)), -2), ((3, 4), 3),
                            (((0, 1), (8, 9)), 8), ((-3, 2), -3), (10 ** 30, 10 ** 30), (nested(60, 2), 2)):
            with self.assertRaises(BadPlace) as caught:
                run_plan(UP, plan, records)
            self.assertEqual(caught.exception.place, place)
            self.assertIsInstance(caught.exception, FieldridesError)
        self.assertEqual(records, [(1,), (2,)])

    def test_an_empty_list_has_no_index(self):
        with self.assertRaises(BadPlace) as caught:
            run_plan(UP, (0, 1), [])
        self.assertEqual(caught.exception.place, 0)

    def test_a_wrong_index_comes_before_a_wrong_record(self):
        with self.assertRaises(BadPlace) as caught:
            run_plan(UP, (0, (1, 2)), [(1, 2), (3, 4)])
        self.assertEqual(caught.exception.place, 2)

    def test_all_records_are_looked_at(self):
        for records, bad in (([(1,), (2,), ()], ()), ([(1, 2), (1,), ()], (1, 2)), ([(1,), (3, 4), (1,)], (3, 4))):
            with self.assertRaises(BadRecord) as caught:
                run_plan(UP, 1, records)
            self.assertEqual(caught.exception.record, bad)


class EndsTest(unittest.TestCase):
    def check(self, book, records, order):
        before = list(records)
        ends = {}
        for plan in all_plans(len(records), order):
            ends.setdefault(end_of_plan(book, plan, records), plan)
        self.assertEqual(all_ends(book, records, order=order), tuple(sorted(ends)))
        for end in ends:
            self.check_plan(plan_for(book, records, end, order=order), len(records), order)
            self.assertEqual(end_of_plan(book, plan_for(book, records, end, order=order), records), end)
        others = [record for record in all_records(book.fields, (0, 1, 2, 9)) if record not in ends]
        for other in others[:3] + others[-1:]:
            with self.assertRaises(NoPlan) as caught:
                plan_for(book, records, other, order=order)
            self.assertIsInstance(caught.exception, FieldridesError)
        found = unlike_plans(book, records, order=order)
        if len(ends) == 1:
            self.assertIsNone(found)
        else:
            self.assertIsInstance(found, tuple)
            self.assertEqual(len(found), 2)
            for plan in found:
                self.check_plan(plan, len(records), order)
            self.assertNotEqual(end_of_plan(book, found[0], records), end_of_plan(book, found[1], records))
        self.assertEqual(records, before)

    def check_plan(self, plan, many, order):
        indices = indices_in(plan)
        self.assertEqual(sorted(indices) if order == "any" else indices, list(range(many)))

    def test_one_record(self):
        for order in ("rows", "any"):
            self.assertEqual(all_ends(CROSSED, [(3, 4)], order=order), ((3, 4),))
            self.assertEqual(plan_for(CROSSED, [(3, 4)], (3, 4), order=order), 0)
            self.assertIsNone(unlike_plans(CROSSED, [(3, 4)], order=order))

    def test_the_example_of_the_document(self):
        records = [(0, 1), (0, 1), (1, 0)]
        self.assertEqual(all_ends(CROSSED, records), ((0, 0), (0, 1)))
        self.assertEqual(plan_for(CROSSED, records, (0, 0)), ((0, 1), 2))
        self.assertEqual(plan_for(CROSSED, records, (0, 1)), (0, (1, 2)))
        self.assertEqual(set(unlike_plans(CROSSED, records)), {((0, 1), 2), (0, (1, 2))})

    def test_rows_are_the_default(self):
        book = Book(["older"])
        records = [(1,), (2,), (3,)]
        self.assertEqual(all_ends(book, records), ((1,),))
        self.assertEqual(all_ends(book, records, order="any"), ((1,), (2,), (3,)))
        self.assertIsNone(unlike_plans(book, records))
        self.assertIsNotNone(unlike_plans(book, records, order="any"))
        with self.assertRaises(NoPlan):
            plan_for(book, records, (2,))
        self.assertEqual(indices_in(plan_for(book, records, (2,), order="any"))[0], 1)

    def test_random_books_in_rows(self):
        rng = random.Random(3)
        for many in range(1, 8):
            for _ in range(60 if many < 6 else 12):
                book = random_book(rng, rng.randrange(1, 4))
                self.check(book, random_row(rng, book.fields, many), "rows")

    def test_random_books_in_any_order(self):
        rng = random.Random(4)
        for many in range(1, 5):
            for _ in range(60 if many < 4 else 20):
                book = random_book(rng, rng.randrange(1, 4))
                self.check(book, random_row(rng, book.fields, many), "any")

    def test_records_are_ordered_as_tuples_are(self):
        book = Book(["older"])
        self.assertEqual(all_ends(book, [(10 ** 59,), (-3,), (2,), (-3,)], order="any"), ((-3,), (2,), (10 ** 59,)))

    def test_books_that_are_alike_have_one_end(self):
        rng = random.Random(5)
        for forest in all_forests(2):
            book = book_of(forest)
            self.assertEqual(len(all_ends(book, random_row(rng, 2, 5))), 1)
            if forest.fair:
                self.assertEqual(len(all_ends(book, random_row(rng, 2, 4), order="any")), 1)
        forest = random_forest(rng, 6)
        self.assertEqual(len(all_ends(book_of(forest), random_row(rng, 6, 7))), 1)

    def test_books_that_are_not_alike_have_two_ends_for_some_list(self):
        rng = random.Random(6)
        for _ in range(100):
            book = random_book(rng, rng.randrange(1, 4))
            for order in ("rows", "any"):
                verdict = decide(book, order=order)
                if not verdict:
                    self.assertGreater(len(all_ends(book, list(verdict.records), order=order)), 1)
                    self.assertIsNotNone(unlike_plans(book, list(verdict.records), order=order))

    def test_wrong_lists(self):
        for order in ("rows", "any"):
            calls = (
                lambda records: all_ends(CROSSED, records, order=order),
                lambda records: unlike_plans(CROSSED, records, order=order),
                lambda records: plan_for(CROSSED, records, (), order=order),
            )
            for call in calls:
                with self.assertRaises(NoRecord):
                    call([])
                for records, bad in (([(1,), ()], (1,)), ([(1, 2), (1, 2, 3)], (1, 2, 3)), ([(1, 2)] * 3 + [()], ())):
                    with self.assertRaises(BadRecord) as caught:
                        call(records)
                    self.assertEqual(caught.exception.record, bad)

    def test_an_end_of_a_wrong_length(self):
        for end in ((), (1,), (1, 2, 3)):
            with self.assertRaises(BadRecord) as caught:
                plan_for(CROSSED, [(1, 2), (3, 4)], end)
            self.assertEqual(caught.exception.record, end)


if __name__ == "__main__":
    unittest.main()
