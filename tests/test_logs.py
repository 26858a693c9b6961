import random
import unittest

from fieldrides.errors import BadNumber, BadPlace, BadRecord, FieldridesError, Marked, NoRecord
from fieldrides.forests import Forest
from fieldrides.logs import Log
from tests.helpers import all_forests, end_in_turn, merged_by_words, random_forest, random_record

MIXED = Forest([None, 0, 0], ["up", "first", "last"])


def state(log):
    """What can be seen of a log."""
    now = log.read() if len(log) > 0 else None
    return list(log), len(log), log.marks(), [log.read(mark) for mark in log.marks()], now


class Model:
    """All records added and the number of them that each kept mark has read; and the stored records by groups."""

    def __init__(self, forest):
        self.forest = forest
        self.added = []
        self.kept = {}
        self.given = 0
        # How many of the added records each stored record stands for.
        self.groups = []

    def stored(self):
        ends, at = [], 0
        for size in self.groups:
            ends.append(end_in_turn(self.forest, self.added[at:at + size]))
            at += size
        return ends

    def press_error(self, place):
        if place < 0 or place + 1 >= len(self.groups):
            return BadPlace
        return Marked if sum(self.groups[:place + 1]) in self.kept.values() else None

    def press(self, place):
        self.groups[place:place + 2] = [sum(self.groups[place:place + 2])]

    def press_all(self):
        places = sorted(set(self.kept.values()) | {len(self.added)} - {0})
        self.groups = [place - before for before, place in zip([0] + places, places)]


class LogTest(unittest.TestCase):
    def filled(self, forest, records):
        log = Log(forest)
        for record in records:
            log.put(record)
        return log

    def test_a_new_log_is_empty(self):
        log = Log(MIXED)
        self.assertEqual((len(log), list(log), log.marks()), (0, [], ()))
        with self.assertRaises(NoRecord) as caught:
            log.read()
        self.assertIsInstance(caught.exception, FieldridesError)
        with self.assertRaises(NoRecord):
            log.mark()
        self.assertEqual(log.marks(), ())
        self.assertIsNone(log.press_all())
        self.assertEqual((len(log), list(log)), (0, []))

    def test_records_are_added_at_the_end(self):
        log = Log(MIXED)
        for many, record in enumerate([(1, 2, 3), (0, 0, 0), (1, 2, 3)]):
            self.assertIsNone(log.put(record))
            self.assertEqual(len(log), many + 1)
        self.assertEqual(list(log), [(1, 2, 3), (0, 0, 0), (1, 2, 3)])
        self.assertEqual([record for record in log], list(log))
        self.assertEqual(log.read(), (1, 2, 3))

    def test_marks_keep_reads(self):
        log = self.filled(MIXED, [(1, 2, 3)])
        self.assertEqual(log.mark(), 0)
        log.put((1, 4, 5))
        self.assertEqual((log.mark(), log.mark()), (1, 2))
        log.put((2, 6, 7))
        self.assertEqual([log.read(mark) for mark in (0, 1, 2)], [(1, 2, 3), (1, 2, 5), (1, 2, 5)])
        self.assertEqual((log.read(), log.read(None), log.read(mark=1)), ((2, 6, 7), (2, 6, 7), (1, 2, 5)))
        self.assertEqual(log.marks(), (0, 1, 2))

    def test_released_marks(self):
        log = self.filled(MIXED, [(1, 2, 3)])
        for _ in range(3):
            log.mark()
        self.assertIsNone(log.release(1))
        self.assertEqual(log.marks(), (0, 2))
        log.release(2)
        # The number of a released mark is not given again.
        self.assertEqual(log.mark(), 3)
        self.assertEqual(log.marks(), (0, 3))
        for mark in (1, 2):
            for call in (log.read, log.release):
                with self.assertRaises(BadNumber) as caught:
                    call(mark)
                self.assertEqual(caught.exception.number, mark)
        self.assertEqual(log.marks(), (0, 3))

    def test_marks_that_do_not_exist(self):
        for log in (Log(MIXED), self.filled(MIXED, [(1, 2, 3)])):
            before = state(log)
            for mark in (0, -1, 1, 10 ** 50):
                for call in (log.read, log.release):
                    with self.assertRaises(BadNumber) as caught:
                        call(mark)
                    self.assertEqual(caught.exception.number, mark)
                    self.assertIsInstance(caught.exception, FieldridesError)
            self.assertEqual(state(log), before)

    def test_press(self):
        log = self.filled(MIXED, [(1, 2, 3), (1, 4, 5), (2, 6, 7)])
        self.assertIsNone(log.press(0))
        self.assertEqual(list(log), [(1, 2, 5), (2, 6, 7)])
        log.press(0)
        self.assertEqual(list(log), [(2, 6, 7)])
        log = self.filled(MIXED, [(1, 2, 3), (1, 4, 5), (1, 6, 7)])
        log.press(1)
        self.assertEqual(list(log), [(1, 2, 3), (1, 4, 7)])

    def test_a_press_where_there_are_no_two_records(self):
        for many, places in ((0, (0, -1, 1)), (1, (0, -1, 1)), (3, (2, 3, -1, -2, 10 ** 30))):
            log = self.filled(MIXED, [(number, 1, 1) for number in range(many)])
            before = state(log)
            for place in places:
                with self.assertRaises(BadPlace) as caught:
                    log.press(place)
                self.assertNotIsInstance(caught.exception, Marked)
                self.assertEqual(caught.exception.place, place)
            self.assertEqual(state(log), before)

    def test_a_press_over_a_mark(self):
        log = self.filled(MIXED, [(1, 2, 3), (1, 4, 5)])
        mark = log.mark()
        log.put((2, 0, 0))
        before = state(log)
        with self.assertRaises(Marked) as caught:
            log.press(1)
        self.assertEqual(caught.exception.place, 1)
        self.assertIsInstance(caught.exception, BadPlace)
        self.assertEqual(state(log), before)
        log.press(0)
        with self.assertRaises(Marked) as caught:
            log.press(0)
        self.assertEqual(caught.exception.place, 0)
        log.release(mark)
        log.press(0)
        self.assertEqual(list(log), [(2, 0, 0)])

    def test_a_mark_at_the_end_of_the_log(self):
        log = self.filled(MIXED, [(1, 2, 3), (1, 4, 5)])
        log.mark()
        with self.assertRaises(BadPlace) as caught:
            log.press(1)
        self.assertNotIsInstance(caught.exception, Marked)
        log.press(0)
        self.assertEqual((list(log), log.read(0)), ([(1, 2, 5)], (1, 2, 5)))
        log.put((3, 3, 3))
        with self.assertRaises(Marked):
            log.press(0)

    def test_several_marks_at_one_place(self):
        log = self.filled(MIXED, [(1, 2, 3)])
        log.mark()
        log.mark()
        log.put((1, 4, 5))
        log.release(0)
        with self.assertRaises(Marked):
            log.press(0)
        log.release(1)
        log.press(0)
        self.assertEqual(list(log), [(1, 2, 5)])

    def test_press_all(self):
        log = self.filled(MIXED, [(1, 2, 3), (1, 4, 5)])
        log.mark()
        log.mark()
        for record in ((0, 1, 1), (0, 2, 2), (1, 6, 6)):
            log.put(record)
        released = log.mark()
        log.put((1, 7, 7))
        log.put((1, 8, 8))
        log.release(released)
        self.assertIsNone(log.press_all())
        self.assertEqual(list(log), [(1, 2, 5), (1, 6, 8)])
        self.assertEqual((log.read(0), log.read(1), log.read()), ((1, 2, 5), (1, 2, 5), (1, 2, 8)))
        log.press_all()
        self.assertEqual(list(log), [(1, 2, 5), (1, 6, 8)])

    def test_records_of_a_wrong_length(self):
        log = self.filled(MIXED, [(1, 2, 3)])
        before = state(log)
        for record in ((), (1, 2), (1, 2, 3, 4)):
            with self.assertRaises(BadRecord) as caught:
                log.put(record)
            self.assertEqual(caught.exception.record, record)
        self.assertEqual(state(log), before)

    def test_what_is_returned_is_not_kept(self):
        log = self.filled(MIXED, [(1, 2, 3), (4, 5, 6)])
        listed = list(log)
        listed.clear()
        self.assertEqual(len(log), 2)
        self.assertIsInstance(log.marks(), tuple)

    def test_two_logs_do_not_share_anything(self):
        first, second = Log(MIXED), Log(MIXED)
        first.put((1, 2, 3))
        first.mark()
        self.assertEqual((len(second), second.marks()), (0, ()))

    def test_200_records(self):
        rng = random.Random(1)
        forest = random_forest(rng, 8)
        records = [random_record(rng, 8) for _ in range(200)]
        log = self.filled(forest, records[:100])
        log.mark()
        for record in records[100:]:
            log.put(record)
        log.press_all()
        self.assertEqual(list(log), [end_in_turn(forest, records[:100]), end_in_turn(forest, records[100:])])
        self.assertEqual((log.read(0), log.read()), (end_in_turn(forest, records[:100]), end_in_turn(forest, records)))


class RandomCallsTest(unittest.TestCase):
    def compare(self, log, model):
        self.assertEqual(list(log), model.stored())
        self.assertEqual(len(log), len(model.groups))
        self.assertEqual(log.marks(), tuple(sorted(model.kept)))
        for mark, many in model.kept.items():
            self.assertEqual(log.read(mark), end_in_turn(model.forest, model.added[:many]))
        if model.added:
            self.assertEqual(log.read(), end_in_turn(model.forest, model.added))

    def step(self, rng, log, model):
        action = rng.choice(["put", "put", "mark", "press", "press", "release", "press_all"])
        if action == "put":
            record = random_record(rng, model.forest.fields)
            log.put(record)
            model.added.append(record)
            model.groups.append(1)
        elif action == "mark" and model.added:
            self.assertEqual(log.mark(), model.given)
            model.kept[model.given] = len(model.added)
            model.given += 1
        elif action == "release" and model.kept and rng.random() < 0.6:
            mark = rng.choice(list(model.kept))
            log.release(mark)
            del model.kept[mark]
        elif action == "press":
            place = rng.randrange(-1, len(model.groups) + 1)
            expected = model.press_error(place)
            if expected is None:
                log.press(place)
                model.press(place)
            else:
                with self.assertRaises(expected) as caught:
                    log.press(place)
                self.assertEqual((type(caught.exception), caught.exception.place), (expected, place))
        elif action == "press_all" and rng.random() < 0.2:
            log.press_all()
            model.press_all()

    def test_random_calls(self):
        rng = random.Random(2)
        forests = all_forests(2) + [random_forest(rng, rng.randrange(1, 9)) for _ in range(60)]
        for forest in forests:
            log, model = Log(forest), Model(forest)
            for _ in range(40):
                self.step(rng, log, model)
                self.compare(log, model)
            log.press_all()
            model.press_all()
            self.compare(log, model)

    def test_a_merge_of_stored_records_is_the_merge_of_the_forest(self):
        rng = random.Random(3)
        for forest in all_forests(2):
            x, y = random_record(rng, 2), random_record(rng, 2)
            log = Log(forest)
            log.put(x)
            log.put(y)
            log.press(0)
            self.assertEqual(list(log), [merged_by_words(forest.parents, forest.kinds, x, y)])


if __name__ == "__main__":
    unittest.main()
