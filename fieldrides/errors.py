"""All errors of the program."""


class FieldridesError(ValueError):
    """The base class of all errors of the program."""


class BadRecord(FieldridesError):
    """A record does not have the values that it must have."""

    def __init__(self, record):
        FieldridesError.__init__(self, "the record does not have the values that it must have")
        self.record = record


class NoRecord(FieldridesError):
    """There is no record, or there are too few."""


class BadTree(FieldridesError):
    """A book has no tree, or a tree asks a field that is not there."""

    def __init__(self, field):
        FieldridesError.__init__(self, f"no tree, or a tree that asks a field that is not there: {field}")
        self.field = field


class BadForest(FieldridesError):
    """Parents and kinds do not make a forest."""

    def __init__(self, field):
        FieldridesError.__init__(self, f"parents and kinds do not make a forest: {field}")
        self.field = field


class NotFair(FieldridesError):
    """A forest has a field of kind "first" or "last", but only fair forests are taken."""

    def __init__(self, field):
        FieldridesError.__init__(self, f"the forest is not fair: {field}")
        self.field = field


class CannotLand(FieldridesError):
    """A write does not land."""

    def __init__(self, field):
        FieldridesError.__init__(self, f"the write cannot land: {field}")
        self.field = field


class Overlap(FieldridesError):
    """A field is named in two places that exclude each other."""

    def __init__(self, field):
        FieldridesError.__init__(self, f"a field is named twice: {field}")
        self.field = field


class BadLetter(FieldridesError):
    """A letter has a field whose parent it leaves out."""

    def __init__(self, field):
        FieldridesError.__init__(self, f"the letter leaves out the parent of a field: {field}")
        self.field = field


class BadAnswer(FieldridesError):
    """An answer has a value that neither of the two records has."""

    def __init__(self, field):
        FieldridesError.__init__(self, f"the answer has the value of neither record: {field}")
        self.field = field


class FieldsDiffer(FieldridesError):
    """Two books or forests have unlike numbers of fields."""

    def __init__(self, first, second):
        FieldridesError.__init__(self, f"unlike numbers of fields: {first} and {second}")
        self.first = first
        self.second = second


class WordsClash(FieldridesError):
    """The words of two fields do not stand together."""

    def __init__(self, first, second):
        FieldridesError.__init__(self, f"the words of two fields do not stand together: {first} and {second}")
        self.first = first
        self.second = second


class HangsOn(FieldridesError):
    """A kept field lies beneath a dropped one."""

    def __init__(self, kept, dropped):
        FieldridesError.__init__(self, f"the kept field {kept} lies beneath the dropped field {dropped}")
        self.kept = kept
        self.dropped = dropped


class ForestsDiffer(FieldridesError):
    """Two copies have unlike forests."""


class BadText(FieldridesError):
    """A text does not have the written form."""

    def __init__(self, line):
        FieldridesError.__init__(self, f"line {line} does not have the written form")
        self.line = line


class BadLine(FieldridesError):
    """A line of the desk does not have a form that the desk knows."""

    def __init__(self, number):
        FieldridesError.__init__(self, f"a line that cannot be carried out: {number}")
        self.number = number


class BadNumber(FieldridesError):
    """There is nothing with this number."""

    def __init__(self, number):
        FieldridesError.__init__(self, f"there is nothing with the number {number}")
        self.number = number


class NoLetter(FieldridesError):
    """There is no letter with this number."""

    def __init__(self, number):
        FieldridesError.__init__(self, f"there is no letter with the number {number}")
        self.number = number


class NotKept(FieldridesError):
    """The receiver has not kept a copy that contains the letter."""

    def __init__(self, number):
        FieldridesError.__init__(self, f"the receiver has not kept the letter {number}")
        self.number = number


class NoHouse(FieldridesError):
    """There is no house with this number."""

    def __init__(self, house):
        FieldridesError.__init__(self, f"there is no house with the number {house}")
        self.house = house


class BadPlace(FieldridesError):
    """There is nothing at this place."""

    def __init__(self, place):
        FieldridesError.__init__(self, f"there is nothing at the place {place}")
        self.place = place


class Marked(BadPlace):
    """A kept mark stands between the two records."""


class BadSizes(FieldridesError):
    """The sizes do not make a box."""


class NoPlan(FieldridesError):
    """No plan ends with this record."""


class NotAsked(FieldridesError):
    """An answer came although no question is open."""


class NotDone(FieldridesError):
    """Something is asked for that is not done."""
