"""A desk that works with lines of text on a book and a row of records."""

from fieldrides.books import Book
from fieldrides.booktext import read_book, write_book
from fieldrides.errors import BadLine, BadText, FieldridesError, NoRecord, NotDone
from fieldrides.forests import book_of
from fieldrides.foresttext import read_forest
from fieldrides.judge import decide
from fieldrides.mends import mend
from fieldrides.tools import check_place, check_record
from fieldrides.treetext import tree_in

FIRST_BOOK = "0: 0(newer,older,older)"
MOST_FIELDS = 6


def is_number(text):
    """True if the text is an integer without a sign and without a leading zero."""
    return text.isascii() and text.isdigit() and (text == "0" or not text.startswith("0"))


def integer_in(text):
    """The integer that is written in the text."""
    digits = text[1:] if text.startswith("-") else text
    if not is_number(digits) or text == "-0":
        raise BadLine(None)
    return int(text)


def record_in(text):
    """The record that is written in the text."""
    return tuple([integer_in(value) for value in text.split(",")])


def with_commas(numbers):
    """The numbers as a line has them."""
    return ",".join([str(number) for number in numbers])


def check_many(words, many):
    """Raise BadLine if there are not so many words."""
    if len(words) != many:
        raise BadLine(None)


def book_line(book, row, words):
    """The book of these trees with the empty row."""
    if len(words) < 1 or len(words) > MOST_FIELDS:
        raise BadLine(None)
    trees = [tree_in(text) for text in words]
    if None in trees:
        raise BadLine(None)
    return Book(trees), (), f"fields {len(trees)}"


def forest_line(book, row, words):
    """The book of the forest with the empty row."""
    lines = " ".join(words).split(";")
    if len(lines) > MOST_FIELDS:
        raise BadLine(None)
    try:
        forest = read_forest("\n".join(lines))
    except BadText:
        raise BadLine(None) from None
    return book_of(forest), (), f"fields {forest.fields}"


def add_line(book, row, words):
    """The book, and the row with one more record."""
    check_many(words, 1)
    record = record_in(words[0])
    check_record(book.fields, record)
    return book, row + (record,), f"records {len(row) + 1}"


def press_line(book, row, words):
    """The book, and the row with two neighbours replaced by their merge."""
    check_many(words, 1)
    if not is_number(words[0]):
        raise BadLine(None)
    place = int(words[0])
    check_place(len(row) - 1, place)
    pressed = row[:place] + (book(row[place], row[place + 1]),) + row[place + 2:]
    return book, pressed, f"records {len(pressed)}"


def mend_line(book, row, words):
    """The book of the forest that mends the book, and the row."""
    check_many(words, 0)
    forest, kept = mend(book)
    names = with_commas(kept) if kept else "-"
    return book_of(forest), row, f"kept {names}"


def read_line(book, row):
    """The row merged from left to right."""
    if not row:
        raise NoRecord("the row is empty")
    end = row[0]
    for record in row[1:]:
        end = book(end, record)
    return with_commas(end)


def decide_line(book, row):
    """Whether the book is alike in rows, and three records that show it if it is not."""
    verdict = decide(book)
    if verdict:
        return "yes"
    return " ".join(["no"] + [with_commas(record) for record in verdict.records])


def show_line(book, row):
    """The book and the row."""
    names = " ".join(["row"] + [with_commas(record) for record in row])
    return f"{write_book(book)}\n{names}"


# Changing lines give the book and the row afterwards and the answer; asking lines give the answer.
CHANGING = {"book": book_line, "forest": forest_line, "add": add_line, "press": press_line, "mend": mend_line}
ASKING = {"read": read_line, "decide": decide_line, "show": show_line}


class Desk:
    """A book and a row of records, with the changing lines that can be undone and redone."""

    def __init__(self):
        self.book = read_book(FIRST_BOOK)
        self.row = ()
        # Each changing line stands with the book and the row that come back when it is undone, or redone.
        self.carried = []
        self.undone = []

    def run(self, line):
        """Carry out a line and return its answer."""
        words = line.split(" ")
        # The written form of a forest would let a newline through.
        if "\n" in line:
            raise BadLine(None)
        if words[0] in CHANGING:
            return self.change_by(line, words)
        if line == "undo":
            moved = self.move(self.carried, self.undone)
            return f"undone {moved}"
        if line == "redo":
            moved = self.move(self.undone, self.carried)
            return f"redone {moved}"
        if line not in ASKING:
            raise BadLine(None)
        action = ASKING[line]
        return action(self.book, self.row)

    def run_all(self, lines):
        """Carry out the lines in order and return the list of the answers; if one of them fails, change nothing."""
        before = self.book, self.row, list(self.carried), list(self.undone)
        answers = []
        for at, line in enumerate(lines):
            try:
                answers.append(self.run(line))
            except FieldridesError:
                self.book, self.row, self.carried, self.undone = before
                raise BadLine(at + 1) from None
        return answers

    def journal(self):
        """The list of the changing lines that are in force."""
        return [line for line, _, _ in self.carried]

    def change_by(self, line, words):
        """Carry out a changing line and return its answer."""
        action = CHANGING[words[0]]
        book, row, answer = action(self.book, self.row, words[1:])
        self.carried.append((line, self.book, self.row))
        self.undone = []
        self.book = book
        self.row = row
        return answer

    def move(self, source, target):
        """Go back to the last state of the source, put the present one behind the target, and return the line."""
        if not source:
            raise NotDone("there is nothing to undo or to redo")
        line, book, row = source.pop()
        target.append((line, self.book, self.row))
        self.book = book
        self.row = row
        return line
