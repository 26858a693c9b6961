import random
import unittest

from fieldrides.booktext import write_book
from fieldrides.books import Book
from fieldrides.desk import Desk
from fieldrides.errors import (
    BadLine, BadPlace, BadRecord, BadTree, FieldridesError, NoRecord, NotDone, WordsClash,
)
from fieldrides.forests import book_of
from fieldrides.foresttext import write_forest
from fieldrides.mends import mend
from fieldrides.treetext import write_tree
from tests.helpers import merged_by_words, random_forest, random_tree, rows_alike

UP = "0(newer,older,older)"
CROSSED = "book 1(newer,0(newer,older,older),older) 0(newer,1(newer,older,older),older)"
NO_WORDS = "book 0(1(newer,older,older),older,1(older,older,newer)) 0(1(newer,older,older),older,1(older,older,newer))"
LONG = "7" * 70
CHANGING = ("book", "forest", "add", "press", "mend")


def desk_with(*lines):
    desk = Desk()
    for line in lines:
        desk.run(line)
    return desk


def answer_of(desk, line):
    """The answer to a line, or the class of its error."""
    try:
        return desk.run(line)
    except FieldridesError as error:
        return error.__class__


def forest_line(forest):
    return "forest " + write_forest(forest).replace("\n", ";")


class Errors(unittest.TestCase):
    def check_error(self, desk, line, error, attribute=None, value=None):
        before = desk.run("show"), desk.journal()
        with self.assertRaises(error, msg=line) as caught:
            desk.run(line)
        self.assertIs(caught.exception.__class__, error, line)
        self.assertIsInstance(caught.exception, FieldridesError)
        if attribute is not None:
            self.assertEqual(getattr(caught.exception, attribute), value, line)
        self.assertEqual((desk.run("show"), desk.journal()), before)

    def check_bad_line(self, desk, line):
        self.check_error(desk, line, BadLine, "number", None)


class LinesTest(Errors):
    def test_a_new_desk(self):
        desk = Desk()
        self.assertEqual(desk.run("show"), f"0: {UP}\nrow")
        self.assertEqual(desk.run("decide"), "yes")
        self.assertEqual(desk.journal(), [])

    def test_book(self):
        desk = desk_with("add 5")
        self.assertEqual(desk.run(f"book {UP} older 2(older,newer,1(newer,newer,older))"), "fields 3")
        self.assertEqual(desk.run("show"), f"0: {UP}\n1: older\n2: 2(older,newer,1(newer,newer,older))\nrow")
        self.assertEqual(desk.run("book " + " ".join([UP] * 6)), "fields 6")
        self.assertEqual(desk.run("book newer"), "fields 1")
        self.assertEqual(desk.run("show"), "0: newer\nrow")

    def test_forest(self):
        desk = desk_with("add 5")
        self.assertEqual(desk.run("forest 0: +1 -0;1: +1;2: +1 <2;3: >3"), "fields 4")
        self.assertEqual(desk.run("show"), (
            "0: 1(newer,0(older,older,newer),older)\n1: 1(newer,older,older)\n2: 1(newer,older,older)\n3: newer\nrow"
        ))
        self.assertEqual(desk.run("forest 0: -0"), "fields 1")
        self.assertEqual(desk.run("forest 0: +0;1: +1;2: +2;3: +3;4: +4;5: +4 >5"), "fields 6")

    def test_forests_and_their_books(self):
        rng = random.Random(1)
        for _ in range(100):
            forest = random_forest(rng, rng.randrange(1, 7))
            desk = Desk()
            self.assertEqual(desk.run(forest_line(forest)), f"fields {forest.fields}")
            self.assertEqual(desk.run("show"), write_book(book_of(forest)) + "\nrow")
            self.assertEqual(desk.run("decide"), "yes")

    def test_add_read_and_show(self):
        desk = desk_with(f"book {UP} 0(newer,1(older,older,newer),older)")
        for number, (line, shown) in enumerate((
            ("1,2", "1,2"), ("-3,0", "-3,0"), ("1,-20", "1,-20"), (f"0,{LONG}", f"0,{LONG}"),
            (f"-{LONG},5", f"-{LONG},5"),
        )):
            self.assertEqual(desk.run(f"add {line}"), f"records {number + 1}")
            self.assertTrue(desk.run("show").endswith(" " + shown))
        self.assertEqual(desk.run("show").split("\n")[2], f"row 1,2 -3,0 1,-20 0,{LONG} -{LONG},5")
        self.assertEqual(desk.run("read"), "1,-20")
        self.assertEqual(desk.run(f"add {LONG},-{LONG}"), "records 6")
        self.assertEqual(desk.run("read"), f"{LONG},-{LONG}")

    def test_read_merges_from_left_to_right(self):
        desk = desk_with(CROSSED, "add 0,1", "add 0,1", "add 1,0")
        self.assertEqual(desk.run("read"), "0,0")
        desk.run("press 1")
        self.assertEqual(desk.run("read"), "0,1")

    def test_press(self):
        desk = desk_with("add 1", "add 3", "add 2", "add 0")
        self.assertEqual(desk.run("press 2"), "records 3")
        self.assertEqual(desk.run("show"), f"0: {UP}\nrow 1 3 2")
        self.assertEqual(desk.run("press 0"), "records 2")
        self.assertEqual(desk.run("show"), f"0: {UP}\nrow 3 2")
        self.check_error(desk, "press 1", BadPlace, "place", 1)
        self.assertEqual(desk.run("press 0"), "records 1")
        self.assertEqual(desk.run("show"), f"0: {UP}\nrow 3")

    def test_the_older_record_of_a_press_comes_first(self):
        desk = desk_with("book older", "add 1", "add 2", "press 0")
        self.assertEqual(desk.run("read"), "1")
        desk = desk_with("book newer", "add 1", "add 2", "press 0")
        self.assertEqual(desk.run("read"), "2")

    def test_mend(self):
        desk = desk_with(CROSSED, "add 5,6")
        self.assertEqual(desk.run("mend"), "kept 0")
        self.assertEqual(desk.run("show"), "0: 1(newer,0(newer,older,older),older)\n1: 1(newer,older,older)\nrow 5,6")
        self.assertEqual(desk.run("mend"), "kept 0,1")
        desk = desk_with(NO_WORDS)
        self.assertEqual(desk.run("mend"), "kept -")
        self.assertEqual(desk.run("show"), "0: 0(newer,older,older)\n1: 1(newer,older,older)\nrow")

    def test_mends_of_random_books(self):
        rng = random.Random(2)
        for _ in range(100):
            trees = [random_tree(rng, 3, 2) for _ in range(3)]
            desk = desk_with("book " + " ".join(map(write_tree, trees)), "add 1,2,3")
            forest, kept = mend(Book(trees))
            self.assertEqual(desk.run("mend"), "kept " + (",".join(map(str, kept)) or "-"))
            self.assertEqual(desk.run("show"), write_book(book_of(forest)) + "\nrow 1,2,3")

    def test_decide(self):
        rng = random.Random(3)
        answers = []
        for _ in range(150):
            trees = [random_tree(rng, 2, 2) for _ in range(2)]
            book = Book(trees)
            answer = desk_with("book " + " ".join(map(write_tree, trees))).run("decide")
            self.assertIs(answer == "yes", rows_alike(book))
            answers.append(answer)
            if answer != "yes":
                word, *records = answer.split(" ")
                self.assertEqual((word, len(records)), ("no", 3))
                x, y, z = [tuple(map(int, record.split(","))) for record in records]
                self.assertLessEqual(set(x + y + z), {0, 1, 2})
                self.assertNotEqual(book(book(x, y), z), book(x, book(y, z)))
        self.assertTrue(20 < answers.count("yes") < 130)

    def test_asking_lines_change_nothing(self):
        desk = desk_with("add 5", "add 6")
        for line in ("read", "decide", "show"):
            desk.run(line)
            self.assertEqual((desk.journal(), desk.run("show")), (["add 5", "add 6"], f"0: {UP}\nrow 5 6"))
        desk.run("undo")
        for line in ("read", "decide", "show"):
            desk.run(line)
        self.assertEqual(desk.run("redo"), "redone add 6")

    def test_presses_do_not_change_what_is_read_if_the_answer_is_yes(self):
        rng = random.Random(4)
        for _ in range(60):
            forest = random_forest(rng, rng.randrange(1, 5))
            desk = desk_with(forest_line(forest))
            row = [tuple(rng.randrange(3) for _ in range(forest.fields)) for _ in range(rng.randrange(2, 7))]
            end = row[0]
            for record in row[1:]:
                end = merged_by_words(forest.parents, forest.kinds, end, record)
            for record in row:
                desk.run("add " + ",".join(map(str, record)))
            wanted = ",".join(map(str, end))
            for left in range(len(row), 1, -1):
                self.assertEqual((desk.run("decide"), desk.run("read")), ("yes", wanted))
                self.assertEqual(desk.run(f"press {rng.randrange(left - 1)}"), f"records {left - 1}")
            self.assertEqual(desk.run("read"), wanted)


class WrongLinesTest(Errors):
    def test_lines_of_another_form(self):
        desk = desk_with("add 1", "add 2")
        for line in (
            "", " ", "  ", "frobnicate", "Read", "SHOW", "reads", "undoundo", "0", "-",
            " read", "read ", "read x", "show 1", "decide any", "decide rows", "mend 0", "mend ", " mend", "undo 1",
            "redo ", " undo", "read\n", "show\t", "undo\n", "\nshow", "\tread", "read\nread", "mend\n",
            "add", "add ", "add  1", " add 1", "add 1 ", "add 1 2", "add 1, 2", "add ,", "add 1,", "add ,1", "add 1,,2",
            "add -", "add -0", "add 01", "add -01", "add 00", "add +1", "add 1.0", "add --1", "add 1-", "add x",
            "add 1\n",
            "add 1\t", "add\t1", "add 1_0", "add (1)", "add 0x1", "add 1e3", "add -0,1", "add 1,-00", "add \n1",
            "add 1;2",
            f"add 0{LONG}", f"add -0{LONG}",
            "press", "press ", "press -1", "press -0", "press 00", "press 01", "press +0", "press 0 ", "press  0",
            "press 0 1", "press 0,1", "press x", "press 0\n", "press\t0", f"press 0{LONG}", "press 1_0", " press 0",
        ):
            self.check_bad_line(desk, line)

    def test_trees_that_are_not_written_correctly(self):
        desk = desk_with("add 1")
        for line in (
            "book", "book ", f"book  {UP}", f"book {UP} ", f"book {UP}  {UP}", f" book {UP}", f"book\t{UP}",
            f"book {UP}\n", f"book {UP}\n{UP}", "book older,newer", "book 0(newer,older)", "book Older", "book clash",
            "book 0(newer, older, older)", "book 00(newer,older,older)", "book 0(newer,older,older", "book x",
            f"book {UP} clash", f"book 0: {UP}", "book 0(clash,older,older)", f"book {UP};{UP}",
            "book -1(older,older,older)",
            "book " + " ".join([UP] * 7), "book " + " ".join(["older"] * 7), "book 9(older,older,older) x",
        ):
            self.check_bad_line(desk, line)

    def test_forests_that_are_not_written_correctly(self):
        desk = desk_with("add 1")
        for line in (
            "forest", "forest ", "forest 0", "forest 0:", "forest 0: ", "forest  0: +0", "forest 0: +0 ",
            "forest 0:  +0",
            "forest 0: +0;", "forest ;0: +0", "forest 0: +0; 1: +1", "forest 0: +0 ;1: +1", "forest 0: +0\n1: +1",
            "forest 0: +0\n", "forest 1: +0", "forest 0: +1", "forest 0: +0;1: +0", "forest 0: <0;1: <0 +1",
            "forest 0: 0",
            "forest 0: *0", "forest 0: +00", "forest 0: +0;1: +0 +0 +1", "forest 0: +0;1: +2 +1", "forest\t0: +0",
            "forest 0:\t+0", "forest 00: +0", "forest 0: +0,1: +1", " forest 0: +0", "forest 0: up", "forest 0: + 0",
            "forest 0: +0;1: -0 >1;", "forest 0: +0;0: +0",
        ):
            self.check_bad_line(desk, line)

    def test_more_than_six_fields(self):
        desk = desk_with("add 1")
        seven = ";".join([f"{field}: +{field}" for field in range(7)])
        sixteen = ";".join([f"{field}: +{field}" for field in range(16)])
        clashing = "0: +0;1: -0 +1;" + ";".join([f"{field}: +{field}" for field in range(2, 7)])
        for text in (seven, sixteen, clashing, seven + ";7: +0 +7", seven.replace("3: +3", "3: +x")):
            self.check_bad_line(desk, f"forest {text}")

    def test_errors_about_the_form_come_before_all_others(self):
        desk = desk_with(f"book {UP} {UP}")
        for line in (
            "add 01", "add 1,2,03", "add -0", "press -5", "press 07", "read now", "undo it", "redo it",
            "book 5(older,older,older) x",
            "forest 0: +0;1: -0 +1;2: x", "forest 0: -1 +0;1: +1;3: +2",
            "book " + " ".join(["9(older,older,older)"] * 7),
        ):
            self.check_bad_line(desk, line)
            self.check_bad_line(Desk(), line)

    def test_bad_trees(self):
        desk = desk_with("add 1")
        for line, field in (
            ("book 1(older,older,older)", 0), (f"book {UP} {UP} 3(newer,older,older)", 2),
            ("book 9(older,older,older) 8(older,older,older)", 0),
            ("book older 0(newer,2(older,older,older),older)", 1),
        ):
            self.check_error(desk, line, BadTree, "field", field)

    def test_words_that_clash(self):
        desk = desk_with("add 1")
        for text, first, second in (
            ("0: +0;1: -0 +1", 0, 1), ("0: +1 +0;1: +0 +1", 0, 1), ("0: +0;1: +0 >1;2: +0 +1 +2", 1, 2),
            ("0: +0;1: +0 +1;2: -0 +2", 0, 2), ("0: +2 +0;1: -2 +1;2: +2", 0, 1),
        ):
            with self.assertRaises(WordsClash) as caught:
                desk.run(f"forest {text}")
            self.assertEqual((caught.exception.first, caught.exception.second), (first, second))
            self.assertEqual((desk.run("show"), desk.journal()), (f"0: {UP}\nrow 1", ["add 1"]))

    def test_records_with_a_wrong_number_of_values(self):
        for line, record in (("add 1,2", (1, 2)), ("add -5,0,7", (-5, 0, 7)), (f"add {LONG},0", (int(LONG), 0))):
            self.check_error(Desk(), line, BadRecord, "record", record)
        desk = desk_with(f"book {UP} {UP}")
        for line, record in (("add 1", (1,)), ("add 1,2,3", (1, 2, 3))):
            self.check_error(desk, line, BadRecord, "record", record)

    def test_places_without_two_records(self):
        self.check_error(Desk(), "press 0", BadPlace, "place", 0)
        self.check_error(desk_with("add 1"), "press 0", BadPlace, "place", 0)
        desk = desk_with("add 1", "add 2")
        for place in (1, 2, 10, int(LONG)):
            self.check_error(desk, f"press {place}", BadPlace, "place", place)

    def test_the_empty_row_has_no_end(self):
        self.check_error(Desk(), "read", NoRecord)
        self.check_error(desk_with("add 1", "undo"), "read", NoRecord)


class UndoTest(Errors):
    def test_nothing_to_undo_or_redo(self):
        self.check_error(Desk(), "undo", NotDone)
        self.check_error(Desk(), "redo", NotDone)
        desk = desk_with("add 1")
        self.check_error(desk, "redo", NotDone)
        desk.run("undo")
        self.check_error(desk, "undo", NotDone)
        desk.run("redo")
        self.check_error(desk, "redo", NotDone)

    def test_each_changing_line(self):
        for line in (CROSSED, "forest 0: >0", "add 7", "press 0", "mend"):
            desk = desk_with("book older", "add 1", "add 2")
            before = desk.run("show")
            desk.run(line)
            after = desk.run("show")
            self.assertEqual((desk.run("undo"), desk.run("show")), (f"undone {line}", before))
            self.assertEqual((desk.run("redo"), desk.run("show")), (f"redone {line}", after))

    def test_several_undos_are_redone_the_latest_first(self):
        desk = desk_with("add 1", "add 2", "add 3")
        self.assertEqual([desk.run("undo") for _ in range(3)], ["undone add 3", "undone add 2", "undone add 1"])
        self.assertEqual(desk.run("redo"), "redone add 1")
        self.assertEqual(desk.run("redo"), "redone add 2")
        self.assertEqual(desk.run("undo"), "undone add 2")
        self.assertEqual([desk.run("redo") for _ in range(2)], ["redone add 2", "redone add 3"])
        self.assertEqual(desk.run("show"), f"0: {UP}\nrow 1 2 3")

    def test_a_new_changing_line_ends_what_can_be_redone(self):
        desk = desk_with("add 1", "add 2", "undo", "undo", "add 3")
        self.check_error(desk, "redo", NotDone)
        self.assertEqual([desk.run("undo"), desk.run("redo")], ["undone add 3", "redone add 3"])
        self.assertEqual(desk.journal(), ["add 3"])

    def test_a_line_that_raises_an_error_ends_nothing(self):
        desk = desk_with("add 1", "add 2", "undo")
        for line in ("add 1,2", "add x", "press 0", "book 1(older,older,older)", "forest 0: +0;1: -0 +1", "read 1"):
            self.assertTrue(issubclass(answer_of(desk, line), FieldridesError))
        self.assertEqual(desk.run("redo"), "redone add 2")

    def test_a_line_that_changed_nothing_is_undone_too(self):
        desk = desk_with("add 1", "mend", f"book {UP}", f"book {UP}")
        self.assertEqual([desk.run("undo") for _ in range(2)], [f"undone book {UP}"] * 2)
        before = desk.run("show")
        self.assertEqual((desk.run("undo"), desk.run("show")), ("undone mend", before))
        self.assertEqual(desk.run("redo"), "redone mend")
        desk.run("mend")
        self.check_error(desk, "redo", NotDone)

    def test_journals_behind_undos(self):
        desk = desk_with("add 1", "add 2", "press 0", "undo", "undo", "redo", "add 5", "add 6", "undo")
        self.assertEqual(desk.journal(), ["add 1", "add 2", "add 5"])
        desk.journal().clear()
        self.assertEqual(desk.journal(), ["add 1", "add 2", "add 5"])


class Model:
    """The changing lines in force and those that can be redone; the state comes from running the former anew."""

    def __init__(self):
        self.lines = []
        self.redoable = []

    def run(self, line):
        if line == "undo":
            if not self.lines:
                return NotDone
            self.redoable.append(self.lines.pop())
            return f"undone {self.redoable[-1]}"
        if line == "redo":
            if not self.redoable:
                return NotDone
            self.lines.append(self.redoable.pop())
            return f"redone {self.lines[-1]}"
        answer = answer_of(desk_with(*self.lines), line)
        if line.split(" ")[0] in CHANGING and isinstance(answer, str):
            self.lines.append(line)
            self.redoable = []
        return answer


def random_line(rng):
    return rng.choice((
        "undo", "undo", "undo", "redo", "redo", "mend", "press 0", "press 1", "press 5", "add 1", "add 2,3", "add 3,1",
        "add 0,0", "add -1", "read", "show", "decide", "add", "wrong", CROSSED, "forest 0: +0;1: +0 <1",
        f"book {UP}", "forest 0: <0", "forest 0: +0;1: -0 +1",
    ))


class RandomLinesTest(unittest.TestCase):
    def test_lines_against_running_the_lines_in_force_anew(self):
        rng = random.Random(5)
        for _ in range(60):
            desk, model = Desk(), Model()
            for _ in range(40):
                line = random_line(rng)
                self.assertEqual(answer_of(desk, line), model.run(line), line)
                self.assertEqual(desk.journal(), model.lines)
                self.assertEqual(desk.run("show"), desk_with(*model.lines).run("show"))

    def test_run_all_against_running_one_by_one(self):
        rng = random.Random(6)
        failed = 0
        for _ in range(300):
            before = [random_line(rng) for _ in range(6)]
            lines = [random_line(rng) for _ in range(rng.randrange(6))]
            desk, other = Desk(), Desk()
            for line in before:
                answer_of(desk, line)
                answer_of(other, line)
            answers = [answer_of(other, line) for line in lines]
            wrong = [at for at, answer in enumerate(answers) if not isinstance(answer, str)]
            given = list(lines)
            if wrong:
                failed += 1
                with self.assertRaises(BadLine) as caught:
                    desk.run_all(given)
                self.assertEqual(caught.exception.number, wrong[0] + 1)
                other = Desk()
                for line in before:
                    answer_of(other, line)
            else:
                self.assertEqual(desk.run_all(given), answers)
            self.assertEqual(given, lines)
            for line in ["show"] + ["redo"] * 6 + ["show"] + ["undo"] * 14 + ["show"]:
                self.assertEqual(answer_of(desk, line), answer_of(other, line))
        self.assertTrue(50 < failed < 280)


class RunAllTest(unittest.TestCase):
    def test_the_answers_in_order(self):
        desk = Desk()
        lines = ["add 1", "add 2", "undo", "redo", "press 0", "read", "decide", "show", "undo"]
        self.assertEqual(desk.run_all(lines), [
            "records 1", "records 2", "undone add 2", "redone add 2", "records 1", "2", "yes", f"0: {UP}\nrow 2",
            "undone press 0",
        ])
        self.assertEqual(lines[0], "add 1")
        self.assertEqual(desk.journal(), ["add 1", "add 2"])
        self.assertEqual(desk.run("redo"), "redone press 0")

    def test_the_empty_list(self):
        desk = desk_with("add 1", "undo")
        self.assertEqual(desk.run_all([]), [])
        self.assertEqual(desk.run("redo"), "redone add 1")

    def test_a_wrong_line_first_in_the_middle_and_last(self):
        for lines, number in (
            (["wrong", "add 3", "add 4"], 1), (["add 3", "press 9", "undo"], 2),
            (["undo", "undo", "redo", "add 1,2"], 4), (["undo"] * 5, 3), (["redo", "redo", "redo"], 2),
            (["add 3", "redo"], 2), (["book 1(older,older,older)"], 1),
            (["forest 0: +0;1: -0 +1"], 1), (["undo", "undo", "read"], 3), (["mend", "add 1\n"], 2), (["show", ""], 2),
        ):
            desk = desk_with("add 1", "add 2", "add 5", "undo")
            with self.assertRaises(BadLine) as caught:
                desk.run_all(lines)
            self.assertEqual(caught.exception.number, number, lines)
            self.assertIsInstance(caught.exception, FieldridesError)
            self.assertEqual((desk.journal(), desk.run("show")), (["add 1", "add 2"], f"0: {UP}\nrow 1 2"))
            self.assertEqual(desk.run("redo"), "redone add 5")
            self.assertEqual(answer_of(desk, "redo"), NotDone)
            self.assertEqual([desk.run("undo") for _ in range(3)], ["undone add 5", "undone add 2", "undone add 1"])
            self.assertEqual(answer_of(desk, "undo"), NotDone)

    def test_a_failed_call_can_be_followed_by_others(self):
        desk = desk_with("add 1")
        for _ in range(2):
            with self.assertRaises(BadLine):
                desk.run_all(["add 2", "undo", "undo", "undo"])
        self.assertEqual(desk.run_all(["add 2", "press 0", "read"]), ["records 2", "records 1", "2"])

    def test_a_journal_run_on_a_new_desk(self):
        rng = random.Random(7)
        for _ in range(60):
            desk = Desk()
            for _ in range(25):
                answer_of(desk, random_line(rng))
            other = Desk()
            self.assertEqual(len(other.run_all(desk.journal())), len(desk.journal()))
            self.assertEqual((other.run("show"), other.journal()), (desk.run("show"), desk.journal()))


if __name__ == "__main__":
    unittest.main()
