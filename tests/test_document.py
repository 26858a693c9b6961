"""What the document says over the whole program: its examples, and that no call changes or keeps what it is given."""

import copy
import random
import unittest

from fieldrides.books import Book
from fieldrides.booktext import read_book, write_book
from fieldrides.desk import Desk
from fieldrides.editions import change, change_plan, drop, drop_witness, graft, parting_pair, unlike_fields
from fieldrides.errors import FieldridesError
from fieldrides.firm import firm_fields, moving_letter
from fieldrides.forests import Forest, book_of, first_unlike, mirror_forest, turned_forest
from fieldrides.houses import Web, replayed
from fieldrides.judge import Verdict, check_verdict, decide
from fieldrides.lattice import meet
from fieldrides.letters import least_letter, left_out_shows, receive, winning_fields
from fieldrides.logs import Log
from fieldrides.lots import (
    bearers, ends_without, fewest_records, lot_end, mixed_lot, needy_lot, spare_records,
)
from fieldrides.mends import book_words, mend
from fieldrides.moments import bad_moment, press_moments
from fieldrides.numbers import forest_at, number_of, shape_word
from fieldrides.plain import PlainBook, clash_pair
from fieldrides.plainjudge import decide_plain
from fieldrides.plans import all_ends, plan_for, run_plan, unlike_plans
from fieldrides.rows import can_strike, keepers, needy_row, row_end
from fieldrides.runs import longest_run, rank_of, run_steps
from fieldrides.stamps import stamp_row, stamped
from fieldrides.trees import follow, least_tree
from fieldrides.treetext import read_tree
from fieldrides.words import forest_of_words
from fieldrides.writes import blocked_fields, both_stay, nearest_raises, reach, with_raises, written
from tests.helpers import random_forest

PAIR = Forest([None, 0], ["up", "up"])
CROSSED = Book([
    (1, "newer", (0, "newer", "older", "older"), "older"), (0, "newer", (1, "newer", "older", "older"), "older"),
])


class ExamplesTest(unittest.TestCase):
    def test_trees(self):
        self.assertEqual(follow((1, "newer", (0, "newer", "older", "older"), "older"), (-1, 0)), "newer")
        tree = (1, "older", (0, "newer", "older", "older"), "older")
        self.assertEqual(least_tree(tree, 0, 2), (0, (1, "older", "newer", "older"), "older", "older"))
        self.assertEqual(
            read_tree("1(newer,0(newer,older,older),older)"), (1, "newer", (0, "newer", "older", "older"), "older"),
        )

    def test_forests(self):
        forest = Forest([None, 0, 0], ["up", "up", "last"])
        self.assertEqual(forest((1, 5, 7), (2, 3, 4)), (2, 3, 4))
        self.assertEqual(forest((2, 5, 7), (2, 3, 4)), (2, 5, 4))

    def test_a_book_whose_fields_ride_on_each_other(self):
        self.assertIs(bool(decide(CROSSED)), False)
        x, y, z = (0, 1), (0, 1), (1, 0)
        self.assertEqual(CROSSED(CROSSED(x, y), z), (0, 0))
        self.assertEqual(CROSSED(x, CROSSED(y, z)), (0, 1))
        self.assertIs(check_verdict(CROSSED, Verdict(None, None, (x, y, z))), True)

    def test_lots_and_writes(self):
        forest = Forest([None, 0, 0], ["up", "up", "up"])
        self.assertEqual(fewest_records(forest, [(1, 0, 5), (2, 1, 0), (2, 0, 3)]), (1, 2))
        self.assertEqual(blocked_fields(PAIR, (4, 9), {1: 3}), (1,))
        self.assertEqual(nearest_raises(PAIR, (4, 9), {1: 3}), (0,))

    def test_shapes(self):
        self.assertEqual(shape_word((None, 0, 0)), (1, 1))
        self.assertEqual(number_of(Forest([None, 0, 0], ["up"] * 3)), 5 * 8)

    def test_the_book_of_a_new_desk(self):
        self.assertEqual(Desk().run("show"), "0: 0(newer,older,older)\nrow")
        self.assertEqual(write_book(book_of(Forest([None], ["up"]))), "0: 0(newer,older,older)")


class NothingIsChangedOrKeptTest(unittest.TestCase):
    ROW = [(1, 2), (3, 0), (1, 5)]
    PLAIN = [((1, 2), (7,)), ((3, 0), (0,)), ((1, 5), (4,))]
    CALLS = (
        (Book, [["older", (0, "newer", "older", "older")]]), (Forest, [[None, 0], ["up", "last"]]),
        (forest_of_words, [2, [((0, "up"),), None]]), (row_end, [PAIR, ROW]), (keepers, [PAIR, ROW]),
        (can_strike, [PAIR, ROW, 1]), (press_moments, [PAIR, ROW]), (stamp_row, [PAIR, ROW]),
        (run_plan, [CROSSED, ((2, 0), 1), ROW]), (all_ends, [CROSSED, ROW]), (plan_for, [CROSSED, ROW, (3, 0)]),
        (unlike_plans, [CROSSED, ROW]), (lot_end, [PAIR, ROW]), (bearers, [PAIR, ROW, 1]),
        (fewest_records, [PAIR, ROW]),
        (spare_records, [PAIR, ROW, 1]), (ends_without, [PAIR, ROW]), (meet, [PAIR, ROW]), (run_steps, [PAIR, [2, 3]]),
        (longest_run, [PAIR, [2, 3]]), (rank_of, [PAIR, [2, 3], (1, 1)]), (written, [PAIR, (4, 9), {1: 3}]),
        (blocked_fields, [PAIR, (4, 9), {1: 3}]), (nearest_raises, [PAIR, (4, 9), {1: 3}]),
        (with_raises, [PAIR, (4, 9), {1: 3}, [0, 0]]), (reach, [PAIR, [1, 0, 1]]), (both_stay, [PAIR, [1, 1], [0]]),
        (drop, [PAIR, [1, 1]]), (drop_witness, [PAIR, [0, 0]]), (PlainBook, [PAIR, [None, 1]]),
        (PlainBook(PAIR, [1]).end, [PLAIN]), (clash_pair, [PlainBook(PAIR, [None]), PLAIN, 0]),
        (replayed, [PAIR, (4, 9), 2, [("write", 0, ((0, 5),)), ("send", 0, 1)]]), (Desk().run_all, [["read", "add 1"]]),
        (Desk().run_all, [["add 1", "undo"]]),
    )

    def test_arguments_stay_as_they_are(self):
        for call, arguments in self.CALLS:
            given = [copy.deepcopy(arg) if isinstance(arg, (list, dict)) else arg for arg in arguments]
            try:
                call(*given)
            except FieldridesError:
                pass
            for arg, other in zip(given, arguments):
                if isinstance(arg, (list, dict)):
                    self.assertEqual(arg, other, call)
                    self.assertEqual(list(arg), list(other), call)

    def test_each_list_or_dict_is_a_new_one(self):
        log, web, desk = Log(PAIR), Web(PAIR, (4, 9), 2), Desk()
        log.put((1, 2))
        web.write(0, {0: 5})
        desk.run("add 1")
        calls = (
            lambda: needy_row(Forest([None], ["up"])), lambda: press_moments(PAIR, self.ROW), lambda: list(log),
            lambda: stamp_row(PAIR, self.ROW), lambda: needy_lot(PAIR, 1), lambda: ends_without(PAIR, self.ROW),
            lambda: mixed_lot(Forest([None, None], ["up", "up"]), 0, 1), lambda: longest_run(PAIR, [2, 3]),
            lambda: with_raises(PAIR, (4, 9), {1: 3}, [0]),
            lambda: change_plan(PAIR, Forest([1, None], ["up", "down"])), web.journal, desk.journal,
            lambda: desk.run_all(["read"]),
            lambda: list(bad_moment(Forest([None], ["first"]))),
        )
        for call in calls:
            found, wanted = call(), copy.deepcopy(call())
            for part in found:
                if isinstance(part, list):
                    part.clear()
            found.clear()
            self.assertEqual(call(), wanted)

    def test_the_same_answer_each_time(self):
        rng = random.Random(1)
        for _ in range(20):
            forest = random_forest(rng, 3, fair=True)
            known, base = (1, 1, 1), (2, 0, 1)
            for call in (
                lambda: winning_fields(forest, known, base), lambda: least_letter(forest, known, base),
                lambda: left_out_shows(forest, known, base, 1), lambda: receive(forest, known, (None, None, None)),
                lambda: firm_fields(forest, known, base), lambda: moving_letter(forest, known, base, 2),
                lambda: unlike_fields(forest, turned_forest(forest)), lambda: first_unlike(forest, 2, known, base),
                lambda: parting_pair(forest, turned_forest(forest), 0), lambda: stamped(forest).parents,
                lambda: change(forest, 0, forest.parents[0], "up").kinds, lambda: graft(forest, None, "last").parents,
                lambda: mend(book_of(forest))[0].parents, lambda: book_words(book_of(forest)),
                lambda: decide_plain(forest, (0, "older", "clash", "newer")).records,
                lambda: decide(book_of(forest)).settled, lambda: mirror_forest(forest).kinds,
                lambda: forest_at(3, number_of(forest)).parents,
            ):
                self.assertEqual(call(), call())
            self.assertEqual(read_book(write_book(book_of(forest))).trees, book_of(forest).trees)


if __name__ == "__main__":
    unittest.main()
