"""Logs: stored rows of records, which are pressed together without changing what is read."""

from fieldrides.errors import BadNumber, Marked, NoRecord
from fieldrides.rows import row_end
from fieldrides.tools import check_place, check_record


class Log:
    """A row of stored records with kept reads, which are called marks.

    Of each mark only its place is kept: how many of the stored records stand before it. No press reaches
    over a mark, so the records before it always have the same end.
    """

    def __init__(self, forest):
        self.forest = forest
        self.records = []
        self.places = {}
        self.marks_made = 0

    def __len__(self):
        return len(self.records)

    def __iter__(self):
        return iter(self.records)

    def put(self, record):
        """Add a record at the end."""
        check_record(self.forest.fields, record)
        self.records.append(record)

    def mark(self):
        """Keep the read of all records added so far and return its number."""
        if not self.records:
            raise NoRecord("no record was added")
        number = self.marks_made
        self.places[number] = len(self.records)
        self.marks_made += 1
        return number

    def release(self, mark):
        """Give up a kept read."""
        self.check_mark(mark)
        del self.places[mark]

    def read(self, mark=None):
        """The end of all records that had been added when the mark was made, or until now."""
        if mark is None:
            return row_end(self.forest, self.records)
        self.check_mark(mark)
        return row_end(self.forest, self.records[:self.places[mark]])

    def press(self, place):
        """Replace the stored record at the place and the next one by their merge."""
        check_place(len(self.records) - 1, place)
        if self.has_mark_at(place + 1):
            raise Marked(place)
        self.records[place:place + 2] = [self.forest(self.records[place], self.records[place + 1])]
        for number in list(self.places):
            if self.places[number] > place:
                self.places[number] -= 1

    def press_all(self):
        """Press as long as some press is possible."""
        place = 0
        while place + 1 < len(self.records):
            if self.has_mark_at(place + 1):
                place += 1
            else:
                self.press(place)

    def marks(self):
        """The ascending tuple of the numbers of the kept marks."""
        return tuple(sorted(list(self.places)))

    def has_mark_at(self, place):
        """True if a kept mark stands before the stored record at the place."""
        return place in list(self.places.values())

    def check_mark(self, mark):
        """Raise BadNumber if there is no such mark."""
        if mark not in self.places:
            raise BadNumber(mark)
