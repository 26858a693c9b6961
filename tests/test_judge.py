import random
import unittest

from fieldrides.books import Book
from fieldrides.errors import WordsClash
from fieldrides.forests import Forest, book_of
from fieldrides.judge import Verdict, check_verdict, decide
from fieldrides.words import forest_of_words, word_of_tree
from tests.helpers import (
    all_forests, all_rows, disguised_book_trees, end_number, end_of, large_tree, random_forest, random_tree,
    restricted, rows_alike, tree_of_function,
)

UP = (0, "newer", "older", "older")
CROSSED = Book([(1, "newer", UP, "older"), (0, "newer", (1, "newer", "older", "older"), "older")])
RANKED = ("up", "down")


def settled_by_rows(trees, forest):
    """For each field a dict from the number of an end to the set of its settling fields, found from all rows."""
    settled = []
    for field, tree in enumerate(trees):
        path = forest.path(field)
        found = {}
        for row in all_rows(forest.fields):
            if row[field] == 0:
                continue
            first = [step for step in path if row[step] != 0][0]
            kind = forest.kinds[first]
            side = {"up": row[first] > 0, "down": row[first] < 0, "first": True, "last": False}[kind]
            assert end_of(tree, row) == ("older" if side else "newer")
            found.setdefault(end_number(tree, row), set()).add(first)
        settled.append(found)
    return settled


def ends_count(tree):
    return 1 if isinstance(tree, str) else sum(ends_count(branch) for branch in tree[1:])


def nested_flip(rng, tree, fields, side):
    """The tree with another side in all rows that have certain signs in certain fields."""
    chosen = rng.sample(range(fields), rng.randrange(1, fields + 1))
    row = [rng.choice((-1, 0, 0, 1)) for _ in range(fields)]

    def flipped(tree, left):
        if not left:
            return side
        asking = left[0]
        branches = [restricted(tree, asking, mark) for mark in (-1, 0, 1)]
        branches[row[asking] + 1] = flipped(branches[row[asking] + 1], left[1:])
        return (asking, *branches)

    return flipped(tree, chosen)


class JudgeTest(unittest.TestCase):
    """What the other classes share: looking at a verdict with no help from the program."""

    def check_no(self, book, verdict, order="rows"):
        self.assertIs(bool(verdict), False)
        self.assertIsNone(verdict.forest)
        self.assertIsNone(verdict.settled)
        records = verdict.records
        self.assertIsInstance(records, tuple)
        for record in records:
            self.assertIsInstance(record, tuple)
            self.assertEqual(len(record), book.fields)
            self.assertLessEqual(set(record), {0, 1, 2})
        if order == "any" and len(records) == 2:
            x, y = records
            self.assertNotEqual(book(x, y), book(y, x))
        else:
            x, y, z = records
            self.assertNotEqual(book(book(x, y), z), book(x, book(y, z)))

    def check_yes(self, book, verdict):
        self.assertIs(bool(verdict), True)
        self.assertIsInstance(verdict.forest, Forest)
        self.assertIsNone(verdict.records)
        self.assertIsInstance(verdict.settled, tuple)
        self.assertEqual(len(verdict.settled), book.fields)
        for tree, entries, found in zip(book.trees, verdict.settled, settled_by_rows(book.trees, verdict.forest)):
            self.assertIsInstance(entries, tuple)
            self.assertEqual(len(entries), ends_count(tree))
            for number, entry in enumerate(entries):
                self.assertEqual(found.get(number, {None}), {entry})

    def check_both_orders(self, book):
        """Decide in both orders, look at both verdicts and return whether the book is alike in rows."""
        rows, any_order = decide(book), decide(book, order="any")
        if rows:
            self.check_yes(book, rows)
        else:
            self.check_no(book, rows)
        if any_order:
            self.check_yes(book, any_order)
        else:
            self.check_no(book, any_order, "any")
        self.assertEqual(bool(any_order), bool(rows) and rows.forest.fair)
        self.assertIs(check_verdict(book, rows), True)
        self.assertIs(check_verdict(book, any_order, order="any"), True)
        return bool(rows)


class DecideTest(JudgeTest):
    def test_the_example_of_the_document(self):
        self.assertIs(bool(decide(CROSSED)), False)
        self.check_no(CROSSED, decide(CROSSED))
        x, y, z = (0, 1), (0, 1), (1, 0)
        self.assertEqual((CROSSED(CROSSED(x, y), z), CROSSED(x, CROSSED(y, z))), ((0, 0), (0, 1)))

    def test_all_books_of_1_field(self):
        kinds = []
        for less in ("older", "newer"):
            for more in ("older", "newer"):
                verdict = decide(Book([(0, less, "newer", more)]))
                self.assertEqual(verdict.forest.parents, (None,))
                kinds.append(verdict.forest.kinds)
                self.assertEqual(verdict.settled, ((0, None, 0),))
                self.check_both_orders(Book([(0, less, "newer", more)]))
        self.assertEqual(kinds, [("first",), ("down",), ("up",), ("last",)])

    def test_every_book_of_2_fields(self):
        rows = {field: [row for row in all_rows(2) if row[field] != 0] for field in (0, 1)}
        trees = {0: [], 1: []}
        for field in (0, 1):
            for number in range(64):
                sides = {row: ("older", "newer")[number >> at & 1] for at, row in enumerate(rows[field])}
                trees[field].append(tree_of_function(2, lambda row: sides.get(row, "older")))
        alike = 0
        for first in trees[0]:
            for second in trees[1]:
                book = Book([first, second])
                answer = self.check_both_orders(book)
                alike += answer
        self.assertEqual(alike, 32)

    def test_the_answer_is_that_of_all_triples(self):
        rng = random.Random(1)
        seen = [0, 0]
        for _ in range(300):
            fields = rng.choice((1, 2, 2, 2))
            trees = disguised_book_trees(rng, random_forest(rng, fields), 3)
            if rng.random() < 0.6:
                at = rng.randrange(fields)
                trees[at] = random_tree(rng, fields, 2)
            book = Book(trees)
            answer = self.check_both_orders(book)
            self.assertIs(answer, rows_alike(book))
            seen[answer] += 1
        self.assertGreater(min(seen), 50)

    def test_books_of_forests_with_needless_asks(self):
        rng = random.Random(2)
        for fields in range(1, 7):
            for _ in range(40 if fields < 5 else 12):
                forest = random_forest(rng, fields, fair=rng.random() < 0.4)
                verdict_of = Book(disguised_book_trees(rng, forest, rng.randrange(6)))
                self.assertIs(self.check_both_orders(verdict_of), True)
                for order in ("rows", "any"):
                    verdict = decide(verdict_of, order=order)
                    if order == "rows" or forest.fair:
                        self.assertEqual(verdict.forest.parents, forest.parents)
                        self.assertEqual(verdict.forest.kinds, forest.kinds)

    def test_all_forests_of_3_fields(self):
        for forest in all_forests(3):
            verdict = decide(book_of(forest))
            self.assertEqual((verdict.forest.parents, verdict.forest.kinds), (forest.parents, forest.kinds))
            self.check_yes(book_of(forest), verdict)

    def test_settled_is_none_at_ends_to_which_no_row_leads(self):
        tree = (0, (0, "newer", "older", "newer"), (1, "older", "newer", "older"), (1, "older", "older", "older"))
        verdict = decide(Book([tree, "older"]))
        self.assertEqual(verdict.forest.kinds, ("up", "first"))
        self.assertEqual(verdict.settled, ((0, None, None, None, None, None, 0, 0, 0), (1,)))
        book = Book([UP, (0, "newer", (1, "newer", "newer", "older"), (0, "older", "newer", "older"))])
        self.assertEqual(decide(book).settled, ((0, None, 0), (0, 1, None, 1, None, None, 0)))

    def test_forests_with_a_wrong_place(self):
        rng = random.Random(3)
        seen = [0, 0]
        for _ in range(1500):
            fields = rng.randrange(2, 7)
            trees = list(book_of(random_forest(rng, fields)).trees)
            for _ in range(rng.choice((1, 1, 2))):
                at = rng.randrange(fields)
                trees[at] = nested_flip(rng, trees[at], fields, rng.choice(("older", "newer")))
            book = Book(trees)
            answer = self.answer_by_words(book)
            verdict = decide(book)
            self.assertIs(bool(verdict), answer)
            if not answer:
                self.check_no(book, verdict)
                self.check_no(book, decide(book, order="any"), "any")
            self.assertIs(check_verdict(book, verdict), True)
            seen[answer] += 1
        self.assertGreater(min(seen), 300)

    def answer_by_words(self, book):
        words = [word_of_tree(tree, field, book.fields) for field, tree in enumerate(book.trees)]
        try:
            return None not in words and bool(forest_of_words(book.fields, words))
        except WordsClash:
            return False

    def test_books_that_go_wrong_only_where_three_or_more_fields_differ(self):
        rng = random.Random(4)
        refused = 0
        for _ in range(600):
            fields = rng.choice((3, 3, 4))
            forest = random_forest(rng, fields)
            trees = book_of(forest).trees
            often = rng.choice((0.02, 0.1, 0.5))
            only = rng.choice((None, *range(fields)))
            wrong = {
                (field, row) for field in range(fields) for row in all_rows(fields)
                if only in (None, field) and row[field] and sum(map(abs, row)) > 2 and rng.random() < often
            }
            other = {"older": "newer", "newer": "older"}
            book = Book([
                tree_of_function(fields, lambda row: (
                    other[end_of(tree, row)] if (field, row) in wrong else end_of(tree, row)
                ))
                for field, tree in enumerate(trees)
            ])
            verdict = decide(book)
            self.assertIs(bool(verdict), not wrong)
            if wrong:
                self.check_no(book, verdict)
                refused += 1
        self.assertGreater(refused, 300)

    def test_a_wrong_merge_of_many_better_fields_must_not_hide_another(self):
        other = {"older": "newer", "newer": "older"}
        trees = book_of(Forest([None] * 5, ["up"] * 5)).trees
        wrong = {(0, (1, -1, -1, -1, -1)), (2, (0, 0, -1, -1, -1)), (2, (1, 0, -1, -1, -1))}
        book = Book([
            tree_of_function(5, lambda row: (
                other[end_of(tree, row)] if (field, row) in wrong else end_of(tree, row)
            ))
            for field, tree in enumerate(trees)
        ])
        self.check_no(book, decide(book))

    def test_pairs_of_fields_that_make_no_forest(self):
        rng = random.Random(5)
        answers = [0, 0]
        for _ in range(600):
            fields = 3
            kinds = [rng.choice(RANKED) for _ in range(fields)]
            rules = {pair: rng.choice((None, *pair)) for pair in ((0, 1), (0, 2), (1, 2))}
            table = {row: rng.choice(range(fields)) for row in all_rows(fields)}

            def judge_of(field, row):
                unlike = tuple([other for other in range(fields) if row[other]])
                if len(unlike) == 2:
                    return field if rules[unlike] is None else rules[unlike]
                return table[row] if len(unlike) == 3 else field

            def side_of(field, row):
                judge = judge_of(field, row)
                return "older" if (row[judge] > 0) == (kinds[judge] == "up") else "newer"

            book = Book([
                tree_of_function(fields, lambda row: side_of(field, row) if row[field] else "older")
                for field in range(fields)
            ])
            verdict = decide(book)
            answers[bool(verdict)] += 1
            if verdict:
                self.check_yes(book, verdict)
            else:
                self.check_no(book, verdict)
        self.assertGreater(answers[0], 500)

    def test_books_of_random_trees(self):
        rng = random.Random(6)
        for _ in range(400):
            fields = rng.randrange(1, 6)
            self.check_both_orders(Book([random_tree(rng, fields, rng.randrange(4)) for _ in range(fields)]))

    def test_books_of_6_fields_with_the_largest_trees(self):
        rng = random.Random(7)
        for _ in range(10):
            book = Book([large_tree(rng, 6, 400) for _ in range(6)])
            self.check_no(book, decide(book))
            chain = Forest([None, 0, 1, 2, 3, 4], ["up", "down", "up", "down", "up", "last"])
            trees = list(book_of(chain).trees)
            trees[rng.randrange(5)] = large_tree(rng, 6, 400)
            self.check_no(Book(trees), decide(Book(trees)))

    def test_unfair_forests_in_any_order(self):
        for kind in ("first", "last"):
            book = book_of(Forest([None, 0, None], ["up", kind, "down"]))
            self.assertTrue(decide(book))
            self.check_no(book, decide(book, order="any"), "any")

    def test_the_same_call_has_the_same_answer(self):
        for book in (CROSSED, book_of(Forest([None, 0], ["up", "last"]))):
            one, two = decide(book), decide(book)
            self.assertEqual((one.records, one.settled), (two.records, two.settled))


class VerdictTest(unittest.TestCase):
    def test_a_verdict_keeps_the_three_as_they_are(self):
        forest = Forest([None], ["up"])
        verdict = Verdict(forest, ((0,),), ((1,), (2,)))
        self.assertIs(verdict.forest, forest)
        self.assertEqual((verdict.settled, verdict.records), (((0,),), ((1,), (2,))))
        self.assertIs(bool(verdict), True)

    def test_it_is_true_exactly_if_there_is_a_forest(self):
        self.assertIs(bool(Verdict(None, ((0,),), None)), False)
        self.assertIs(bool(Verdict(None, None, ((0,), (1,), (2,)))), False)
        self.assertIs(bool(Verdict(Forest([None], ["last"]), None, None)), True)


class CheckVerdictTest(unittest.TestCase):
    def setUp(self):
        self.forest = Forest([None, 0], ["up", "down"])
        self.book = Book([UP, (0, "newer", (1, "older", "newer", "newer"), (0, "newer", "older", "older"))])
        self.settled = ((0, None, 0), (0, 1, None, 1, None, None, 0))

    def answers(self, book, *parts):
        verdict = Verdict(*parts)
        return [check_verdict(book, verdict), check_verdict(book, verdict, order="any")]

    def test_the_right_yes(self):
        self.assertEqual(decide(self.book).settled, self.settled)
        self.assertEqual(self.answers(self.book, self.forest, self.settled, None), [True, True])

    def test_an_unfair_forest_is_right_for_rows_only(self):
        forest = Forest([None, 0], ["up", "last"])
        settled = ((0, None, 0), (0, 1, 0))
        self.assertEqual(self.answers(book_of(forest), forest, settled, None), [True, False])

    def test_wrong_settled(self):
        good = self.settled
        wrong = [None, (), (good[0],), good + ((),), (good[1], good[0]), ((), ()), (good[0], ()),
                 (good[0][:2], good[1]), (good[0] + (None,), good[1]), ((0, 0, 0), good[1]), ((0, 1, 0), good[1]),
                 ((None, None, 0), good[1]), ((0, None, 2), good[1]), ((0, None, -2), good[1]),
                 ((10 ** 60, None, 0), good[1]),
                 (good[0], (0, 1, None, 1, None, None, None)), (good[0], (0, 0, None, 1, None, None, 0)),
                 (good[0], (0, 1, 1, 1, None, None, 0)), (good[0], (0, 1, None, 1, 0, 0, 0))]
        for settled in wrong:
            self.assertEqual(self.answers(self.book, self.forest, settled, None), [False, False], settled)

    def test_every_single_wrong_entry_is_seen(self):
        rng = random.Random(1)
        for _ in range(30):
            forest = random_forest(rng, 3)
            book = Book(disguised_book_trees(rng, forest, 3))
            verdict = decide(book)
            for field, entries in enumerate(verdict.settled):
                for at, entry in enumerate(entries):
                    for other in (None, -3, -2, -1, 0, 1, 2, 3):
                        if other != entry:
                            changed = entries[:at] + (other,) + entries[at + 1:]
                            settled = verdict.settled[:field] + (changed,) + verdict.settled[field + 1:]
                            self.assertEqual(self.answers(book, forest, settled, None), [False, False])

    def test_wrong_forests(self):
        for parents, kinds in (
            ([None, 0], ["up", "up"]), ([None, 0], ["down", "down"]), ([None, None], ["up", "down"]),
            ([1, None], ["up", "down"]), ([None, 0], ["up", "first"]), ([None], ["up"]),
            ([None, 0, None], ["up", "down", "up"]), ([None] * 16, ["up"] * 16),
        ):
            self.assertEqual(self.answers(self.book, Forest(parents, kinds), self.settled, None), [False, False])

    def test_only_the_right_forest_is_taken(self):
        for forest in all_forests(2):
            same = (forest.parents, forest.kinds) == (self.forest.parents, self.forest.kinds)
            self.assertEqual(self.answers(self.book, forest, self.settled, None), [same, same])
            self.assertEqual(self.answers(CROSSED, forest, decide(book_of(forest)).settled, None), [False, False])

    def test_parts_that_do_not_go_together(self):
        records = ((0, 1), (0, 1), (1, 0))
        self.assertEqual(self.answers(self.book, self.forest, self.settled, ()), [False, False])
        self.assertEqual(self.answers(self.book, self.forest, self.settled, records), [False, False])
        self.assertEqual(self.answers(self.book, None, None, None), [False, False])
        self.assertEqual(self.answers(self.book, None, self.settled, None), [False, False])
        self.assertEqual(self.answers(CROSSED, None, ((), ()), records), [False, False])
        self.assertEqual(self.answers(CROSSED, self.forest, None, records), [False, False])
        self.assertEqual(self.answers(CROSSED, None, None, records), [True, True])

    def test_wrong_records(self):
        wrong = [
            (), ((0, 1),), ((0, 1), (0, 1)), ((0, 1), (0, 1), (0, 1)), ((0, 1), (0, 1), (1, 0), (1, 0)),
            ((0,), (0, 1), (1, 0)), ((0, 1), (0, 1, 0), (1, 0)), ((0, 1), (0, 1), ()), ((), (), ()),
            ((0, 3), (0, 3), (1, 0)), ((0, 1), (0, 1), (1, -1)), ((0, 10 ** 60), (0, 10 ** 60), (1, 0)),
        ]
        for records in wrong:
            self.assertEqual(self.answers(CROSSED, None, None, records), [False, False], records)
        self.assertEqual(self.answers(CROSSED, None, None, ((0, 2), (0, 2), (1, 0))), [True, True])

    def test_two_records_show_it_only_for_any_order(self):
        book = book_of(Forest([None, 0], ["up", "last"]))
        self.assertEqual(self.answers(book, None, None, ((0, 0), (0, 1))), [False, True])
        self.assertEqual(self.answers(book, None, None, ((0, 0), (0, 3))), [False, False])
        self.assertEqual(self.answers(book, None, None, ((0, 0), (0, 0))), [False, False])
        self.assertEqual(self.answers(book, None, None, ((0, 0), (1, 0))), [False, False])
        self.assertEqual(self.answers(book, None, None, ((0, 0), (0,))), [False, False])

    def test_records_are_right_exactly_if_their_merges_are_unlike(self):
        rng = random.Random(2)
        seen = [0, 0]
        for _ in range(600):
            book = Book([random_tree(rng, 2, 2) for _ in range(2)])
            x, y, z = [tuple([rng.randrange(3) for _ in range(2)]) for _ in range(3)]
            unlike = book(book(x, y), z) != book(x, book(y, z))
            self.assertEqual(self.answers(book, None, None, (x, y, z)), [unlike, unlike])
            self.assertEqual(self.answers(book, None, None, (x, y)), [False, book(x, y) != book(y, x)])
            seen[unlike] += 1
        self.assertGreater(min(seen), 50)


if __name__ == "__main__":
    unittest.main()
