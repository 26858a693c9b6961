import random
import unittest

from fieldrides.errors import BadAnswer, BadRecord, FieldridesError, NotAsked, NotDone
from fieldrides.forests import Forest
from fieldrides.hider import Hider
from fieldrides.numbers import fair_forests
from fieldrides.teller import Teller, fewest_questions, most_questions
from tests.helpers import merged_by_words, random_forest


def state(teller):
    """What can be seen of a teller."""
    try:
        found = teller.found()
        return teller.answers, teller.question(), found.parents, found.kinds
    except NotDone:
        return teller.answers, teller.question(), None, None


class QuestionsTest(unittest.TestCase):
    def test_most_questions(self):
        self.assertEqual([most_questions(fields) for fields in range(1, 9)], [1, 3, 6, 9, 13, 17, 21, 25])

    def test_fewest_questions(self):
        self.assertEqual([fewest_questions(fields) for fields in range(1, 9)], [1, 3, 6, 9, 12, 16, 20, 24])


class TellerTest(unittest.TestCase):
    def check_question(self, teller, fields):
        pair = teller.question()
        self.assertIsInstance(pair, tuple)
        self.assertEqual([len(pair), len(pair[0]), len(pair[1])], [2, fields, fields])
        for record in pair:
            self.assertIsInstance(record, tuple)
            self.assertLessEqual(set(record), {0, 1})
        return pair

    def ask_all(self, forest, ask=True):
        teller = Teller(forest.fields)
        while teller.question() is not None:
            with self.assertRaises(NotDone):
                teller.found()
            pair = self.check_question(teller, forest.fields)
            self.assertIsNone(teller.answer(merged_by_words(forest.parents, forest.kinds, *pair)))
        self.assertLessEqual(teller.answers, most_questions(forest.fields))
        found = teller.found()
        self.assertEqual((found.parents, found.kinds), (forest.parents, forest.kinds))
        return teller

    def test_every_fair_forest_of_few_fields_is_found(self):
        for fields in (1, 2, 3, 4):
            for forest in fair_forests(fields):
                self.ask_all(forest)

    def test_larger_forests_are_found(self):
        rng = random.Random(1)
        for fields in range(5, 9):
            for _ in range(150):
                self.ask_all(random_forest(rng, fields, fair=True))
            for order in (list(range(fields)), list(reversed(range(fields))), rng.sample(range(fields), fields)):
                parents = [None] * fields
                for above, field in zip(order, order[1:]):
                    parents[field] = above
                self.ask_all(Forest(parents, [rng.choice(["up", "down"]) for _ in range(fields)]))
            self.ask_all(Forest([None] * fields, ["down"] * fields))
            self.ask_all(Forest([None] + [0] * (fields - 1), ["down"] * fields))
            self.ask_all(Forest([fields - 1] * (fields - 1) + [None], ["up"] * fields))

    def test_a_new_teller(self):
        for fields in range(1, 9):
            teller = Teller(fields)
            self.assertEqual(teller.answers, 0)
            self.check_question(teller, fields)
            with self.assertRaises(NotDone) as caught:
                teller.found()
            self.assertIsInstance(caught.exception, FieldridesError)

    def test_a_teller_of_1_field(self):
        for kind in ("up", "down"):
            teller = self.ask_all(Forest([None], [kind]))
            self.assertEqual((teller.answers, teller.question()), (1, None))

    def test_the_number_of_answers_is_counted(self):
        teller = Teller(3)
        for many in range(1, 7):
            if teller.question() is not None:
                teller.answer(teller.question()[0])
                self.assertEqual(teller.answers, many)

    def test_a_question_does_not_change_the_teller(self):
        rng = random.Random(2)
        asked, silent = Teller(5), Teller(5)
        while asked.question() is not None:
            pairs = [asked.question() for _ in range(3)]
            self.assertEqual(pairs[0], pairs[1])
            self.assertEqual(pairs[0], pairs[2])
            merged = tuple([rng.choice(values) for values in zip(*pairs[0])])
            asked.answer(merged)
            # The other teller is never asked for its question before it gets the answer.
            silent.answer(merged)
        self.assertEqual(state(asked), state(silent))

    def test_answers_that_no_forest_gives(self):
        rng = random.Random(3)
        for fields in range(1, 9):
            for _ in range(200):
                teller = Teller(fields)
                while teller.question() is not None:
                    teller.answer(tuple([rng.choice(values) for values in zip(*teller.question())]))
                self.assertLessEqual(teller.answers, most_questions(fields))
                found = teller.found()
                self.assertIsInstance(found, Forest)
                self.assertEqual((found.fields, found.fair), (fields, True))

    def test_answers_after_the_end(self):
        teller = self.ask_all(Forest([None, 0], ["up", "down"]))
        before = state(teller)
        for record in ((0, 0), (1, 1), (), (0, 0, 0), (7, 7)):
            with self.assertRaises(NotAsked) as caught:
                teller.answer(record)
            self.assertIsInstance(caught.exception, FieldridesError)
        self.assertEqual(state(teller), before)
        self.assertIsNone(teller.question())

    def test_records_of_a_wrong_length(self):
        for fields in (1, 2, 8):
            teller = Teller(fields)
            before = state(teller)
            for record in ((), (0,) * (fields - 1), (0,) * (fields + 1), (9,) * (fields + 1)):
                with self.assertRaises(BadRecord) as caught:
                    teller.answer(record)
                self.assertEqual(caught.exception.record, record)
            self.assertEqual(state(teller), before)

    def test_values_of_neither_record(self):
        rng = random.Random(4)
        forest = Forest([None, 0, 1, 0], ["up", "down", "up", "down"])
        teller = Teller(4)
        while teller.question() is not None:
            pair = teller.question()
            merged = forest(*pair)
            for field in range(4):
                for value in (-1, 2, 10 ** 60):
                    wrong = list(merged)
                    wrong[field] = value
                    for later in range(field + 1, 4):
                        wrong[later] = rng.choice((0, 1, 5))
                    before = state(teller)
                    with self.assertRaises(BadAnswer) as caught:
                        teller.answer(tuple(wrong))
                    self.assertEqual(caught.exception.field, field)
                    self.assertIsInstance(caught.exception, FieldridesError)
                    self.assertEqual(state(teller), before)
            same = [field for field in range(4) if pair[0][field] == pair[1][field]]
            if same:
                wrong = tuple([1 - value if field == same[-1] else value for field, value in enumerate(merged)])
                with self.assertRaises(BadAnswer) as caught:
                    teller.answer(wrong)
                self.assertEqual(caught.exception.field, same[-1])
            teller.answer(merged)
        self.assertEqual(teller.found().parents, forest.parents)

    def test_two_tellers_do_not_share_anything(self):
        first, second = Teller(2), Teller(2)
        first.answer(first.question()[0])
        self.assertEqual((first.answers, second.answers), (1, 0))
        self.assertEqual(second.question(), Teller(2).question())

    def test_the_forest_found_is_not_changed_by_further_calls(self):
        teller = self.ask_all(Forest([1, None], ["up", "up"]))
        self.assertEqual(teller.found().parents, (1, None))
        self.assertEqual(teller.found().parents, teller.found().parents)

    def test_a_teller_against_a_hider(self):
        for fields in (1, 2, 3, 4):
            teller, hider = Teller(fields), Hider(fields)
            while teller.question() is not None:
                teller.answer(hider.reply(*teller.question()))
            self.assertGreaterEqual(teller.answers, fewest_questions(fields))
            self.assertEqual(len(hider.remaining()), 1)
            found, hidden = teller.found(), hider.remaining()[0]
            self.assertEqual((found.parents, found.kinds), (hidden.parents, hidden.kinds))


if __name__ == "__main__":
    unittest.main()
