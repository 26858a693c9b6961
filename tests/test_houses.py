import random
import unittest

from fieldrides.errors import (
    BadNumber, BadPlace, BadRecord, CannotLand, FieldridesError, NoHouse, NoLetter, NotFair, NotKept,
)
from fieldrides.forests import Forest
from fieldrides.houses import Web, replayed
from tests.helpers import UNFAIR, below_by_words, end_in_turn, merged_by_words, path_of, random_forest, random_record

PAIR = Forest([None, 0], ["up", "up"])
START = (4, 9)


def merged(forest, x, y):
    return merged_by_words(forest.parents, forest.kinds, x, y)


def written_by_words(base, changes):
    return tuple(changes.get(field, value) for field, value in enumerate(base))


def blocked_by_words(forest, base, changes):
    """The lowered fields without a raised field above them."""
    steps = {f: (value - base[f]) * (1 if forest.kinds[f] == "up" else -1) for f, value in changes.items()}
    return [
        field for field in sorted(changes)
        if steps[field] < 0 and not any(steps.get(above, 0) > 0 for above in path_of(forest.parents, field))
    ]


def letter_by_words(forest, known, copy):
    needed = set()
    for field in range(forest.fields):
        path = path_of(forest.parents, field)
        unlike = [step for step in path if known[step] != copy[step]]
        if unlike and (copy[unlike[0]] > known[unlike[0]]) == (forest.kinds[unlike[0]] == "up"):
            needed |= set(path)
    return tuple(value if field in needed else None for field, value in enumerate(copy))


def state(web, houses):
    """All that can be seen of a web."""
    seen = [web.journal()]
    for house in range(houses):
        seen.append((web.copy_of(house), web.kept_of(house), web.heard_by(house)))
        seen.append([web.floor_of(house, to) for to in range(houses) if to != house])
    for call, look in (("write", web.record_of), ("send", web.letter_of)):
        many = len([entry for entry in seen[0] if entry[0] == call])
        seen.append([look(number) for number in range(many)])
    return seen


class Model:
    """A web that merges whole copies and looks at its journal to tell which letters are kept."""

    def __init__(self, forest, start, houses):
        self.forest = forest
        self.start = start
        self.copies = [start] * houses
        self.kept = [start] * houses
        self.heard = [set() for _ in range(houses)]
        self.kept_heard = [set() for _ in range(houses)]
        self.floors = {(a, b): start for a in range(houses) for b in range(houses) if a != b}
        self.records, self.letters, self.calls = [], [], []

    def write(self, house, changes):
        self.copies[house] = written_by_words(self.copies[house], changes)
        self.heard[house] = self.heard[house] | {len(self.records)}
        self.records.append(self.copies[house])
        self.calls.append(("write", house, tuple(sorted(changes.items()))))

    def send(self, house, to):
        told = letter_by_words(self.forest, self.floors[house, to], self.copies[house])
        self.letters.append((house, to, told, self.copies[house], self.heard[house]))
        self.calls.append(("send", house, to))

    def deliver(self, number):
        _, to, _, copy, heard = self.letters[number]
        self.copies[to] = merged(self.forest, self.copies[to], copy)
        self.heard[to] = self.heard[to] | heard
        self.calls.append(("deliver", number))

    def keep(self, house):
        self.kept[house], self.kept_heard[house] = self.copies[house], self.heard[house]
        self.calls.append(("keep", house))

    def fall(self, house):
        self.copies[house], self.heard[house] = self.kept[house], self.kept_heard[house]
        self.calls.append(("fall", house))

    def is_kept(self, number):
        """Whether the letter was delivered and the house kept its copy later, without a fall between the two."""
        to = self.letters[number][1]
        for at, call in enumerate(self.calls):
            if call == ("deliver", number):
                for later in self.calls[at + 1:]:
                    if later == ("fall", to):
                        break
                    if later == ("keep", to):
                        return True
        return False

    def acknowledge(self, number):
        house, to, _, copy, _ = self.letters[number]
        self.floors[house, to] = merged(self.forest, self.floors[house, to], copy)
        self.calls.append(("acknowledge", number))


class SingleWebsTest(unittest.TestCase):
    def test_a_new_web(self):
        web = Web(PAIR, START, 3)
        for house in range(3):
            self.assertEqual((web.copy_of(house), web.kept_of(house), web.heard_by(house)), (START, START, ()))
            for to in range(3):
                if to != house:
                    self.assertEqual(web.floor_of(house, to), START)
        self.assertEqual(web.journal(), [])

    def test_one_house(self):
        web = Web(PAIR, START, 1)
        self.assertEqual([web.write(0, {0: 5, 1: 1}), web.write(0, {1: 2})], [0, 1])
        self.assertEqual((web.copy_of(0), web.kept_of(0), web.heard_by(0)), ((5, 2), START, (0, 1)))
        self.assertIsNone(web.keep(0))
        web.write(0, {1: 3})
        self.assertEqual((web.copy_of(0), web.kept_of(0), web.heard_by(0)), ((5, 3), (5, 2), (0, 1, 2)))
        self.assertIsNone(web.fall(0))
        self.assertEqual((web.copy_of(0), web.kept_of(0), web.heard_by(0)), ((5, 2), (5, 2), (0, 1)))
        self.assertEqual([web.record_of(number) for number in range(3)], [(5, 1), (5, 2), (5, 3)])
        with self.assertRaises(NoHouse):
            web.send(0, 0)

    def test_a_write_that_changes_no_value(self):
        web = Web(PAIR, START, 2)
        self.assertEqual([web.write(1, {}), web.write(1, {0: 4}), web.write(0, {1: 9, 0: 4})], [0, 1, 2])
        self.assertEqual([web.record_of(number) for number in range(3)], [START] * 3)
        self.assertEqual((web.heard_by(0), web.heard_by(1)), ((2,), (0, 1)))
        self.assertEqual(web.journal(), [("write", 1, ()), ("write", 1, ((0, 4),)), ("write", 0, ((0, 4), (1, 9)))])

    def test_a_letter_delivered_twice_and_late(self):
        web = Web(PAIR, START, 2)
        web.write(0, {0: 5, 1: 1})
        self.assertEqual(web.send(0, 1), 0)
        self.assertEqual(web.letter_of(0), (0, 1, (5, 1)))
        web.write(0, {1: 7})
        web.write(1, {0: 5})
        self.assertIsNone(web.deliver(0))
        self.assertEqual((web.copy_of(1), web.heard_by(1)), ((5, 9), (0, 2)))
        web.deliver(0)
        self.assertEqual((web.copy_of(1), web.heard_by(1)), ((5, 9), (0, 2)))
        self.assertEqual((web.copy_of(0), web.heard_by(0)), ((5, 7), (0, 1)))

    def test_an_empty_letter(self):
        web = Web(PAIR, START, 2)
        web.write(0, {0: 4})
        number = web.send(0, 1)
        self.assertEqual(web.letter_of(number), (0, 1, (None, None)))
        with self.assertRaises(NotKept):
            web.acknowledge(number)
        web.keep(1)
        with self.assertRaises(NotKept):
            web.acknowledge(number)
        web.deliver(number)
        with self.assertRaises(NotKept):
            web.acknowledge(number)
        self.assertEqual((web.heard_by(1), web.copy_of(1)), ((0,), START))
        web.keep(1)
        self.assertIsNone(web.acknowledge(number))
        self.assertEqual(web.floor_of(0, 1), START)

    def test_acknowledged_letters_make_later_ones_shorter(self):
        web = Web(PAIR, START, 3)
        web.write(0, {0: 5})
        number = web.send(0, 1)
        web.deliver(number)
        web.keep(1)
        web.write(0, {1: 12})
        self.assertEqual(web.letter_of(web.send(0, 1))[2], (5, 12))
        web.acknowledge(number)
        self.assertEqual(web.floor_of(0, 1), (5, 9))
        self.assertEqual([web.floor_of(0, 2), web.floor_of(1, 0), web.floor_of(2, 1)], [START] * 3)
        web.write(0, {0: 6, 1: 0})
        web.deliver(1)
        web.keep(1)
        web.acknowledge(1)
        self.assertEqual(web.floor_of(0, 1), (5, 12))
        self.assertEqual(web.letter_of(web.send(0, 1))[2], (6, 0))
        self.assertEqual(web.letter_of(web.send(0, 2))[2], (6, 0))
        web.acknowledge(number)
        self.assertEqual(web.floor_of(0, 1), (5, 12))

    def test_a_letter_that_has_only_one_branch(self):
        web = Web(Forest([None, 0, 0], ["up", "up", "down"]), (1, 1, 1), 2)
        web.write(1, {2: 0})
        self.assertEqual(web.letter_of(web.send(1, 0)), (1, 0, (1, None, 0)))
        web.write(0, {1: 5})
        web.deliver(0)
        self.assertEqual(web.copy_of(0), (1, 5, 0))


class KeptLettersTest(unittest.TestCase):
    def sent(self):
        web = Web(PAIR, START, 3)
        web.write(0, {0: 5})
        web.send(0, 1)
        return web

    def test_which_letters_the_kept_copy_contains(self):
        calls = {
            "d": lambda web: web.deliver(0), "k": lambda web: web.keep(1), "f": lambda web: web.fall(1),
            "0": lambda web: web.keep(0), "2": lambda web: web.fall(2),
        }
        for kept in ("dk", "dkf", "dkfk", "fdk", "dfdk", "d2k", "d0k", "kdk", "ddk", "dkdf", "dkfff", "dfkdkf", "dkk"):
            web = self.sent()
            for name in kept:
                calls[name](web)
            web.acknowledge(0)
            self.assertEqual(web.floor_of(0, 1), (5, 9), kept)
            web.acknowledge(0)
            self.assertEqual(web.floor_of(0, 1), (5, 9), kept)
        for lost in ("", "d", "k", "f", "kd", "df", "dfk", "fd", "kdf", "dfkd", "d0", "d20", "dfkfk"):
            web = self.sent()
            for name in lost:
                calls[name](web)
            before = state(web, 3)
            with self.assertRaises(NotKept, msg=lost) as caught:
                web.acknowledge(0)
            self.assertEqual(caught.exception.number, 0)
            self.assertEqual(state(web, 3), before)

    def test_another_letter_that_says_the_same_does_not_count(self):
        web = self.sent()
        self.assertEqual(web.send(0, 1), 1)
        self.assertEqual(web.letter_of(0), web.letter_of(1))
        web.deliver(1)
        web.keep(1)
        with self.assertRaises(NotKept) as caught:
            web.acknowledge(0)
        self.assertEqual(caught.exception.number, 0)
        web.acknowledge(1)
        web.deliver(0)
        web.keep(1)
        web.acknowledge(0)

    def test_a_fall_takes_back_the_copy_and_the_writes_heard_but_no_floor(self):
        web = self.sent()
        web.deliver(0)
        web.keep(1)
        web.acknowledge(0)
        web.write(1, {1: 20})
        web.fall(1)
        self.assertEqual((web.copy_of(1), web.heard_by(1), web.floor_of(0, 1)), ((5, 9), (0,), (5, 9)))
        web.fall(0)
        self.assertEqual((web.copy_of(0), web.heard_by(0), web.floor_of(0, 1)), (START, (), (5, 9)))


def random_call(rng, web, forest, houses):
    """The name and the arguments of some call; most of them raise no error."""
    name = rng.choice(("write", "write", "send", "send", "deliver", "deliver", "keep", "fall", "acknowledge"))
    house = rng.randrange(houses)
    if name == "write":
        changes = {f: web.copy_of(house)[f] + rng.randrange(-2, 3) for f in range(forest.fields) if rng.random() < 0.5}
        return name, (house, changes)
    if name == "send":
        return name, (house, rng.randrange(houses))
    if name in ("deliver", "acknowledge"):
        return name, (rng.randrange(1 + len([call for call in web.journal() if call[0] == "send"])),)
    return name, (house,)


def error_of(model, name, args):
    """The class and the attribute of the error that the call is to raise, or None."""
    if name == "write":
        blocked = blocked_by_words(model.forest, model.copies[args[0]], args[1])
        return (CannotLand, "field", blocked[0]) if blocked else None
    if name == "send":
        return (NoHouse, "house", args[1]) if args[0] == args[1] else None
    if name in ("deliver", "acknowledge"):
        if args[0] >= len(model.letters):
            return (NoLetter, "number", args[0])
        if name == "acknowledge" and not model.is_kept(args[0]):
            return (NotKept, "number", args[0])
    return None


class RandomWebsTest(unittest.TestCase):
    def check_state(self, web, model):
        forest, houses = model.forest, range(len(model.copies))
        for house in houses:
            copy, heard = web.copy_of(house), web.heard_by(house)
            self.assertEqual(copy, model.copies[house])
            self.assertEqual(web.kept_of(house), model.kept[house])
            self.assertEqual(heard, tuple(sorted(model.heard[house])))
            behind = [model.start] + [web.record_of(number) for number in heard]
            self.assertEqual(copy, end_in_turn(forest, behind))
            for field in range(forest.fields):
                path = path_of(forest.parents, field)
                self.assertTrue(any(all(record[f] == copy[f] for f in path) for record in behind))
        for (house, to), floor in model.floors.items():
            self.assertEqual(web.floor_of(house, to), floor)
            self.assertTrue(below_by_words(forest, floor, web.kept_of(to)))
            self.assertTrue(below_by_words(forest, floor, web.copy_of(to)))
        self.assertEqual(web.journal(), model.calls)
        self.assertEqual([web.record_of(number) for number in range(len(model.records))], model.records)
        self.assertEqual([web.letter_of(at) for at in range(len(model.letters))], [told[:3] for told in model.letters])

    def play(self, rng, forest, houses, many):
        start = random_record(rng, forest.fields)
        web, model = Web(forest, start, houses), Model(forest, start, houses)
        for _ in range(many):
            name, args = random_call(rng, web, forest, houses)
            copies = [web.copy_of(house) for house in range(houses)]
            wanted = error_of(model, name, args)
            if wanted is not None:
                before = state(web, houses)
                with self.assertRaises(wanted[0]) as caught:
                    getattr(web, name)(*args)
                self.assertEqual(getattr(caught.exception, wanted[1]), wanted[2])
                self.assertEqual(state(web, houses), before)
                continue
            found = getattr(web, name)(*args)
            getattr(model, name)(*args)
            numbers = {"write": len(model.records) - 1, "send": len(model.letters) - 1}
            self.assertEqual(found, numbers.get(name))
            self.check_state(web, model)
            if name != "fall":
                for house, copy in enumerate(copies):
                    self.assertTrue(below_by_words(forest, copy, web.copy_of(house)))
        return web, start

    def test_webs_of_one_to_eight_houses(self):
        rng = random.Random(1)
        kinds = {}
        for at in range(60):
            forest = random_forest(rng, rng.randrange(1, 7), fair=True)
            houses = at % 8 + 1
            web, start = self.play(rng, forest, houses, 60)
            for call in web.journal():
                kinds[call[0]] = kinds.get(call[0], 0) + 1
            other = replayed(forest, start, houses, web.journal())
            self.assertEqual(state(other, houses), state(web, houses))
        self.assertGreater(min(kinds.values()), 25)

    def test_two_houses_for_long(self):
        rng = random.Random(2)
        for _ in range(6):
            self.play(rng, random_forest(rng, 4, fair=True), 2, 250)


class JournalTest(unittest.TestCase):
    CALLS = [
        ("write", 0, ((0, 5), (1, 1))), ("send", 0, 1), ("deliver", 0), ("keep", 1), ("acknowledge", 0), ("fall", 1),
        ("keep", 1),
    ]

    def test_all_six_calls(self):
        web = Web(PAIR, START, 2)
        web.write(0, {1: 1, 0: 5})
        web.send(0, 1)
        web.deliver(0)
        web.keep(1)
        web.acknowledge(0)
        web.fall(1)
        web.keep(1)
        self.assertEqual(web.journal(), self.CALLS)
        web.journal().clear()
        self.assertEqual(web.journal(), self.CALLS)

    def test_calls_that_raise_an_error_are_left_out(self):
        web = Web(PAIR, START, 2)
        for call in (
            lambda: web.write(0, {1: 1}), lambda: web.write(0, {7: 1}), lambda: web.send(0, 2),
            lambda: web.deliver(0), lambda: web.keep(5), lambda: web.fall(-1), lambda: web.acknowledge(0),
        ):
            with self.assertRaises(FieldridesError):
                call()
        self.assertEqual(web.journal(), [])

    def test_a_journal_on_a_new_web(self):
        journal = list(self.CALLS)
        web = replayed(PAIR, START, 2, journal)
        self.assertEqual(journal, self.CALLS)
        self.assertEqual((web.journal(), web.copy_of(1), web.floor_of(0, 1)), (self.CALLS, (5, 1), (5, 1)))
        web.keep(0)
        self.assertEqual(journal, self.CALLS)
        self.assertEqual(replayed(PAIR, START, 2, []).journal(), [])

    def test_a_wrong_journal(self):
        for journal, error, attribute, value in (
            (self.CALLS[:3] + self.CALLS[4:], NotKept, "number", 0), ([("deliver", 0)], NoLetter, "number", 0),
            ([("write", 0, ((1, 5),))], CannotLand, "field", 1), ([("keep", 2), ("fall", 9)], NoHouse, "house", 2),
            ([("send", 1, 1)], NoHouse, "house", 1), ([("write", 1, ((2, 5),))], BadPlace, "place", 2),
            ([("fall", -1)], NoHouse, "house", -1), ([("acknowledge", 3)], NoLetter, "number", 3),
        ):
            with self.assertRaises(error) as caught:
                replayed(PAIR, START, 2, journal)
            self.assertEqual(getattr(caught.exception, attribute), value)
        with self.assertRaises(NoHouse):
            replayed(PAIR, START, 1, self.CALLS)
        with self.assertRaises(NotFair):
            replayed(UNFAIR[0][0], START, 1, self.CALLS)
        with self.assertRaises(BadRecord):
            replayed(PAIR, (1,), 1, self.CALLS)


class WrongArgumentsTest(unittest.TestCase):
    def setUp(self):
        self.web = Web(PAIR, START, 2)
        self.web.write(0, {0: 5})
        self.web.send(0, 1)
        self.before = state(self.web, 2)

    def tearDown(self):
        self.assertEqual(state(self.web, 2), self.before)

    def check(self, call, error, attribute, value):
        with self.assertRaises(error) as caught:
            call()
        self.assertEqual(getattr(caught.exception, attribute), value)
        self.assertIsInstance(caught.exception, FieldridesError)

    def test_a_new_web(self):
        for forest, field in UNFAIR:
            self.check(lambda: Web(forest, (), 2), NotFair, "field", field)
        for start in ((), (1,), (1, 2, 3)):
            self.check(lambda: Web(PAIR, start, 2), BadRecord, "record", start)

    def test_numbers_that_are_no_house(self):
        web = self.web
        for house in (-1, 2, 10 ** 20):
            for call in (
                lambda: web.write(house, {9: 0}), lambda: web.send(house, 99), lambda: web.send(0, house),
                lambda: web.keep(house), lambda: web.fall(house), lambda: web.copy_of(house),
                lambda: web.kept_of(house), lambda: web.heard_by(house), lambda: web.floor_of(house, 99),
                lambda: web.floor_of(1, house), lambda: web.send(house, house), lambda: web.floor_of(house, house),
            ):
                self.check(call, NoHouse, "house", house)

    def test_a_house_named_as_its_own_receiver(self):
        for house in (0, 1):
            self.check(lambda: self.web.send(house, house), NoHouse, "house", house)
            self.check(lambda: self.web.floor_of(house, house), NoHouse, "house", house)

    def test_numbers_that_are_no_letter_or_no_write(self):
        for number in (-1, 1, 10 ** 20):
            for call in (self.web.deliver, self.web.acknowledge, self.web.letter_of):
                self.check(lambda: call(number), NoLetter, "number", number)
            self.check(lambda: self.web.record_of(number), BadNumber, "number", number)

    def test_writes_that_cannot_be_made(self):
        for changes, error, attribute, value in (
            ({2: 0}, BadPlace, "place", 2), ({9: 0, -3: 0, 0: 1}, BadPlace, "place", -3),
            ({1: 8}, CannotLand, "field", 1), ({1: 8, 0: 5}, CannotLand, "field", 1), ({0: 4}, CannotLand, "field", 0),
            ({1: 8, 0: 4}, CannotLand, "field", 0),
        ):
            given = dict(changes)
            self.check(lambda: self.web.write(0, given), error, attribute, value)
            self.assertEqual(given, changes)

    def test_changes_are_not_kept(self):
        web, changes = Web(PAIR, START, 1), {1: 12, 0: 7}
        web.write(0, changes)
        self.assertEqual(list(changes.items()), [(1, 12), (0, 7)])
        changes[0] = 99
        self.assertEqual((web.journal(), web.copy_of(0)), ([("write", 0, ((0, 7), (1, 12)))], (7, 12)))


if __name__ == "__main__":
    unittest.main()
