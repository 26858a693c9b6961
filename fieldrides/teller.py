"""Finding a hidden fair forest by the merges of pairs of records."""

from math import factorial

from fieldrides.errors import BadAnswer, NotAsked, NotDone
from fieldrides.forests import Forest
from fieldrides.tools import check_record


def halvings(many):
    """How many halvings find one of so many."""
    return (many - 1).bit_length()


def most_questions(fields):
    """The number of questions that are always enough."""
    return sum([1 + halvings(many) for many in range(1, fields + 1)])


def fewest_questions(fields):
    """The number of questions that every way of asking needs in the worst case."""
    return halvings(factorial(fields) * (1 << fields))


class Teller:
    """Asks for merges until the forest that makes them is known.

    The fields are put in one by one, in ascending order. The forest of the fields put in is always known;
    for the next field, first its kind is asked, then its parent is found by halving.
    """

    def __init__(self, fields):
        self.fields = fields
        self.answers = 0
        self.parents = []
        self.kinds = []
        # The fields put in, parents before children; place k is the k-th of them, place 0 means no parent.
        self.order = []
        # The parent of the next field stands at a place from low to high - 1.
        self.low = 0
        self.high = 1
        self.moved = []

    def question(self):
        """The next pair of records to be merged, or None if the teller is done."""
        if len(self.order) == self.fields:
            return None
        if self.asks_kind():
            # The older record has more in the next field, so the answer has its value exactly if the kind is "up".
            return self.pair_for("up", [])
        return self.pair_for(self.kinds[-1], self.order[self.middle() - 1:])

    def answer(self, record):
        """Take the merge of the pair that `question` returns."""
        pair = self.question()
        if pair is None:
            raise NotAsked("no question is open")
        check_answer(pair, record)
        self.answers += 1
        comes = [record[field] == pair[0][field] for field in range(self.fields)]
        if self.asks_kind():
            self.kinds.append("up" if comes[len(self.order)] else "down")
        else:
            self.take_half(comes)
        if self.high == self.low + 1:
            self.put_in()

    def found(self):
        """The forest that was found."""
        if len(self.order) < self.fields:
            raise NotDone("a question is open")
        return Forest(self.parents, self.kinds)

    def asks_kind(self):
        """True if the open question is about the kind of the next field."""
        return len(self.kinds) == len(self.order)

    def middle(self):
        """The first place of the upper half."""
        return (self.low + self.high) // 2

    def pair_for(self, kind, others):
        """A pair whose older record is better in the next field, which has this kind, and the newer one in others."""
        with_more = {len(self.order): "older" if kind == "up" else "newer"}
        for other in others:
            with_more[other] = "newer" if self.kinds[other] == "up" else "older"
        older = tuple([1 if with_more.get(field) == "older" else 0 for field in range(self.fields)])
        newer = tuple([1 if with_more.get(field) == "newer" else 0 for field in range(self.fields)])
        return older, newer

    def take_half(self, comes):
        """Take for each field whether it comes from the older record, which is better in the next field alone."""
        middle = self.middle()
        if comes[len(self.order)]:
            self.high = middle
            # The last such answer is about the place behind the parent, so it shows all of the parent's children.
            self.moved = [field for field in self.order[middle - 1:] if comes[field]]
        else:
            self.low = middle

    def put_in(self):
        """Put the next field in behind its parent; the parent of the field after it can stand at every place."""
        field = len(self.order)
        parent = None if self.low == 0 else self.order[self.low - 1]
        for child in self.moved:
            if self.parents[child] == parent:
                self.parents[child] = field
        self.parents.append(parent)
        self.order.insert(self.low, field)
        self.low = 0
        self.high = len(self.order) + 1
        self.moved = []


def check_answer(pair, record):
    """Raise an error if the record cannot be a merge of the pair."""
    check_record(len(pair[0]), record)
    for field, value in enumerate(record):
        if value != pair[0][field] and value != pair[1][field]:
            raise BadAnswer(field)
