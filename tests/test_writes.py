import random
import unittest
from itertools import chain, combinations, product

from fieldrides.errors import BadPlace, BadRecord, CannotLand, FieldridesError, NotFair, Overlap
from fieldrides.forests import Forest
from fieldrides.writes import (
    blocked_fields, both_stay, fewest_raises, lands, nearest_raises, reach, with_raises, written,
)
from tests.helpers import UNFAIR, all_forests, merged_by_words, path_of, random_forest, random_record

PAIR = Forest([None, 0], ["up", "up"])
CHAIN = Forest([None, 0, 1, 2], ["up", "down", "up", "down"])
FORK = Forest([None, 0, 0, 1, 1], ["up", "down", "up", "up", "down"])
FAIR = {fields: [forest for forest in all_forests(fields) if forest.fair] for fields in (1, 2, 3)}


def written_by_words(base, changes):
    record = list(base)
    for field, value in changes.items():
        record[field] = value
    return tuple(record)


def lands_by_words(forest, base, changes):
    record = written_by_words(base, changes)
    return merged_by_words(forest.parents, forest.kinds, base, record) == record


def is_better(forest, field, value, other):
    return value > other if forest.kinds[field] == "up" else value < other


def blocked_by_words(forest, base, changes):
    found = []
    for field, value in sorted(changes.items()):
        if is_better(forest, field, base[field], value):
            above = [step for step in path_of(forest.parents, field)[:-1] if step in changes]
            if not any(is_better(forest, step, changes[step], base[step]) for step in above):
                found.append(field)
    return tuple(found)


def raised_by_words(forest, base, changes, fields):
    after = dict(changes)
    for field in fields:
        after[field] = base[field] + (1 if forest.kinds[field] == "up" else -1)
    return after


def helping_sets(forest, base, changes):
    """All sets of free fields with which the write lands."""
    free = [field for field in range(forest.fields) if field not in changes]
    sets = chain.from_iterable(combinations(free, many) for many in range(len(free) + 1))
    return [chosen for chosen in sets if lands_by_words(forest, base, raised_by_words(forest, base, changes, chosen))]


def random_write(rng, forest):
    base = random_record(rng, forest.fields, 3)
    keys = [field for field in range(forest.fields) if rng.random() < 0.5]
    rng.shuffle(keys)
    return base, {field: rng.randrange(-1, 4) for field in keys}


def random_writes(seed, many, most=8):
    rng = random.Random(seed)
    for _ in range(many):
        forest = random_forest(rng, rng.randrange(1, most + 1), fair=True)
        yield (forest, *random_write(rng, forest))


class WrittenTest(unittest.TestCase):
    def test_single_writes(self):
        self.assertEqual(written(PAIR, (4, 9), {1: 3}), (4, 3))
        self.assertEqual(written(PAIR, (4, 9), {}), (4, 9))
        self.assertEqual(written(PAIR, (4, 9), {1: -3, 0: 10 ** 60}), (10 ** 60, -3))
        self.assertEqual(written(PAIR, (4, 9), {0: 4}), (4, 9))

    def test_the_example_of_the_document(self):
        self.assertEqual(blocked_fields(PAIR, (4, 9), {1: 3}), (1,))
        self.assertEqual(nearest_raises(PAIR, (4, 9), {1: 3}), (0,))

    def test_lands_and_blocked_fields_of_single_writes(self):
        for changes, blocked in (
            ({}, ()), ({0: 4}, ()), ({1: 9}, ()), ({1: 10}, ()), ({0: 5, 1: -7}, ()), ({0: 3}, (0,)),
            ({0: 3, 1: 10}, (0,)), ({0: 4, 1: 8}, (1,)), ({0: 3, 1: 8}, (0, 1)),
        ):
            self.assertEqual(blocked_fields(PAIR, (4, 9), changes), blocked)
            self.assertIs(lands(PAIR, (4, 9), changes), blocked == ())

    def test_raised_and_lowered_go_by_the_kind(self):
        self.assertEqual(blocked_fields(CHAIN, (0, 0, 0, 0), {0: -1, 1: 1, 2: -1, 3: 1}), (0, 1, 2, 3))
        self.assertEqual(blocked_fields(CHAIN, (0, 0, 0, 0), {1: -1, 2: -1, 3: 1}), ())
        self.assertEqual(blocked_fields(CHAIN, (0, 0, 0, 0), {0: 0, 1: 1, 2: 1, 3: 1}), (1,))

    def test_a_sibling_or_a_field_beneath_does_not_help(self):
        self.assertEqual(blocked_fields(FORK, (0,) * 5, {1: 1, 2: 1, 3: 5}), (1,))
        self.assertEqual(blocked_fields(FORK, (0,) * 5, {3: -1, 4: -1}), (3,))
        self.assertEqual(blocked_fields(FORK, (0,) * 5, {2: -1, 3: -1, 1: -1}), (2,))

    def test_all_writes_on_forests_of_few_fields(self):
        for fields in (1, 2, 3):
            for forest in FAIR[fields]:
                for values in product((None, -1, 0, 1), repeat=fields):
                    changes = {field: value for field, value in enumerate(values) if value is not None}
                    self.check(forest, (0,) * fields, changes)

    def test_random_writes(self):
        landed = 0
        for forest, base, changes in random_writes(1, 2000):
            self.check(forest, base, changes)
            landed += lands(forest, base, changes)
        self.assertTrue(300 < landed < 1700)

    def check(self, forest, base, changes):
        before = list(changes.items())
        self.assertEqual(written(forest, base, changes), written_by_words(base, changes))
        self.assertIs(lands(forest, base, changes), lands_by_words(forest, base, changes))
        self.assertEqual(blocked_fields(forest, base, changes), blocked_by_words(forest, base, changes))
        self.assertEqual(list(changes.items()), before)


class RaisesTest(unittest.TestCase):
    def test_nearest_and_fewest_in_a_chain(self):
        base = (0, 0, 0, 0)
        for changes, nearest, fewest in (
            ({3: 1}, (2,), (0,)), ({3: 1, 2: 0}, (1,), (0,)), ({3: 1, 0: 0}, (2,), (1,)),
            ({3: 1, 1: 1}, (0, 2), (0,)), ({3: 1, 1: 0, 0: 0}, (2,), (2,)), ({3: -1}, (), ()), ({}, (), ()),
        ):
            self.assertEqual(nearest_raises(CHAIN, base, changes), nearest)
            self.assertEqual(fewest_raises(CHAIN, base, changes), fewest)

    def test_one_field_for_several_blocked_ones(self):
        self.assertEqual(nearest_raises(FORK, (0,) * 5, {3: -1, 4: 1, 2: -1}), (0, 1))
        self.assertEqual(fewest_raises(FORK, (0,) * 5, {3: -1, 4: 1, 2: -1}), (0,))

    def test_what_cannot_land(self):
        for forest, base, changes, field in (
            (PAIR, (4, 9), {0: 3}, 0), (PAIR, (4, 9), {0: 4, 1: 8}, 1), (PAIR, (4, 9), {1: 8, 0: 3}, 0),
            (CHAIN, (0,) * 4, {0: 0, 1: 0, 2: 0, 3: 1}, 3), (FORK, (0,) * 5, {0: 0, 2: -1, 3: -1}, 2),
            (Forest([1, None], ["up", "up"]), (0, 0), {1: -1, 0: -1}, 0),
        ):
            for call in (nearest_raises, fewest_raises):
                with self.assertRaises(CannotLand) as caught:
                    call(forest, base, changes)
                self.assertEqual(caught.exception.field, field)
                self.assertIsInstance(caught.exception, FieldridesError)
            self.assertEqual(helping_sets(forest, base, changes), [])

    def test_random_writes_against_all_sets_of_free_fields(self):
        helped = 0
        for forest, base, changes in random_writes(2, 2000, 7):
            sets = helping_sets(forest, base, changes)
            blocked = blocked_by_words(forest, base, changes)
            free = {f: [step for step in path_of(forest.parents, f)[:-1] if step not in changes] for f in blocked}
            stuck = [field for field in blocked if not free[field]]
            if stuck:
                self.assertEqual(sets, [])
                for call in (nearest_raises, fewest_raises):
                    with self.assertRaises(CannotLand) as caught:
                        call(forest, base, changes)
                    self.assertEqual(caught.exception.field, stuck[0])
                continue
            nearest, fewest = nearest_raises(forest, base, changes), fewest_raises(forest, base, changes)
            self.assertEqual(nearest, tuple(sorted({free[field][-1] for field in blocked})))
            self.assertEqual(fewest, tuple(sorted({free[field][0] for field in blocked})))
            self.assertIn(nearest, sets)
            self.assertIn(fewest, sets)
            self.assertEqual(len(fewest), min(map(len, sets)))
            inner = set(reach(forest, nearest))
            for chosen in sets:
                self.assertLessEqual(inner, set(reach(forest, list(chosen))))
            helped += len(blocked) > 0
        self.assertGreater(helped, 150, "too few writes that need help")


class WithRaisesTest(unittest.TestCase):
    def test_single_writes(self):
        self.assertEqual(with_raises(PAIR, (4, 9), {1: 3}, [0]), {1: 3, 0: 5})
        self.assertEqual(with_raises(CHAIN, (4, 9, 2, 0), {0: 7}, [1, 2, 3]), {0: 7, 1: 8, 2: 3, 3: -1})
        self.assertEqual(with_raises(PAIR, (4, 9), {}, []), {})

    def test_an_entry_twice_is_raised_once(self):
        self.assertEqual(with_raises(PAIR, (4, 9), {1: 3}, [0, 0, 0]), {1: 3, 0: 5})

    def test_each_dict_is_a_new_one(self):
        changes, stamps = {1: 3}, [0, 0]
        found = with_raises(PAIR, (4, 9), changes, stamps)
        found[1] = found[5] = 0
        self.assertEqual((changes, stamps), ({1: 3}, [0, 0]))
        self.assertEqual(with_raises(PAIR, (4, 9), changes, stamps), {0: 5, 1: 3})
        same = with_raises(PAIR, (4, 9), changes, [])
        same.clear()
        self.assertEqual(changes, {1: 3})

    def test_the_raised_write_lands(self):
        for forest, base, changes in random_writes(3, 400):
            for call in (nearest_raises, fewest_raises):
                try:
                    stamps = list(call(forest, base, changes))
                except CannotLand:
                    continue
                after = with_raises(forest, base, changes, stamps)
                self.assertEqual(after, raised_by_words(forest, base, changes, stamps))
                self.assertIs(lands(forest, base, after), True)

    def test_wrong_entries_in_their_order(self):
        for stamps, error, attribute, value in (
            ([2], BadPlace, "place", 2), ([-1], BadPlace, "place", -1), ([0, 7, 1], BadPlace, "place", 7),
            ([1], Overlap, "field", 1), ([0, 1, 9], Overlap, "field", 1), ([9, 1], BadPlace, "place", 9),
            ([0, 0, -5], BadPlace, "place", -5),
        ):
            changes, given = {1: 3}, list(stamps)
            with self.assertRaises(error) as caught:
                with_raises(PAIR, (4, 9), changes, given)
            self.assertEqual(getattr(caught.exception, attribute), value)
            self.assertIsInstance(caught.exception, FieldridesError)
            self.assertEqual((changes, given), ({1: 3}, stamps))


class ReachTest(unittest.TestCase):
    def test_fields_and_all_beneath_them(self):
        for fields, reached in (
            ([], ()), ([0], (0, 1, 2, 3, 4)), ([1], (1, 3, 4)), ([4, 2], (2, 4)), ([3, 1, 3], (1, 3, 4)),
            ([2, 0], (0, 1, 2, 3, 4)),
        ):
            given = list(fields)
            self.assertEqual(reach(FORK, given), reached)
            self.assertEqual(given, fields)
        self.assertEqual(reach(Forest([None] * 4, ["up"] * 4), [3, 1]), (1, 3))

    def test_random_forests(self):
        rng = random.Random(4)
        for _ in range(300):
            forest = random_forest(rng, rng.randrange(1, 9), fair=True)
            fields = [rng.randrange(forest.fields) for _ in range(rng.randrange(4))]
            wanted = [f for f in range(forest.fields) if set(path_of(forest.parents, f)) & set(fields)]
            self.assertEqual(reach(forest, fields), tuple(wanted))

    def test_the_first_entry_that_is_no_field(self):
        for fields, place in (([5], 5), ([-1, 9], -1), ([0, 9, -1], 9)):
            with self.assertRaises(BadPlace) as caught:
                reach(FORK, fields)
            self.assertEqual(caught.exception.place, place)


class BothStayTest(unittest.TestCase):
    def test_single_lists(self):
        for first, second, stay in (
            ([], [], True), ([0], [], True), ([1], [2], True), ([0], [4], False), ([4], [0], False),
            ([3], [4], True), ([3, 3, 2], [4, 4], True), ([2, 3], [4, 1], False), ([1], [2, 4], False),
        ):
            given = list(first), list(second)
            self.assertIs(both_stay(FORK, *given), stay)
            self.assertEqual(given, (first, second))

    def test_a_field_in_both_lists(self):
        for first, second, field in (([1], [1], 1), ([4, 2, 3], [3, 2], 2), ([4, 4], [0, 4], 4), ([0, 4], [4, 1], 4)):
            with self.assertRaises(Overlap) as caught:
                both_stay(FORK, first, second)
            self.assertEqual(caught.exception.field, field)
            self.assertIsInstance(caught.exception, FieldridesError)

    def test_entries_that_are_no_field(self):
        for first, second, place in (
            ([5], [], 5), ([], [-1], -1), ([0, 7, -1], [9], 7), ([0], [0, 9], 9), ([9], [9], 9),
            ([1, 1], [1, -3, 8], -3),
        ):
            with self.assertRaises(BadPlace) as caught:
                both_stay(FORK, first, second)
            self.assertEqual(caught.exception.place, place)

    def test_two_writes_on_one_base(self):
        rng = random.Random(5)
        answers = []
        for _ in range(3000):
            forest = random_forest(rng, rng.randrange(2, 7), fair=True)
            base = random_record(rng, forest.fields, 5)
            owners = [rng.choice((None, 0, 1)) for _ in range(forest.fields)]
            writes = [
                {field: rng.choice([v for v in range(-2, 7) if v != base[field]])
                 for field in range(forest.fields) if owners[field] == owner} for owner in (0, 1)
            ]
            records = [written_by_words(base, changes) for changes in writes]
            end = merged_by_words(forest.parents, forest.kinds, *records)
            kept = all(end[field] == value for changes in writes for field, value in changes.items())
            if not both_stay(forest, list(writes[0]), list(writes[1])):
                self.assertFalse(kept)
                answers.append("no")
            elif lands_by_words(forest, base, writes[0]) and lands_by_words(forest, base, writes[1]):
                self.assertTrue(kept)
                answers.append("yes")
        self.assertGreater(answers.count("yes"), 200)
        self.assertGreater(answers.count("no"), 200)


class WrongArgumentsTest(unittest.TestCase):
    WITH_WRITE = (
        written, lands, blocked_fields, nearest_raises, fewest_raises,
        lambda forest, base, changes: with_raises(forest, base, changes, [99, 0]),
    )

    def test_only_fair_forests(self):
        for forest, field in UNFAIR:
            calls = [lambda call=call: call(forest, (), {9: 1}) for call in self.WITH_WRITE]
            calls += [lambda: reach(forest, [99]), lambda: both_stay(forest, [99], [-1]), lambda: reach(forest, [])]
            for call in calls:
                with self.assertRaises(NotFair) as caught:
                    call()
                self.assertEqual(caught.exception.field, field)

    def test_base_records_of_a_wrong_length(self):
        for base in ((), (1,), (1, 2, 3)):
            for call in self.WITH_WRITE:
                with self.assertRaises(BadRecord) as caught:
                    call(PAIR, base, {9: 1})
                self.assertEqual(caught.exception.record, base)

    def test_the_lowest_key_that_is_no_field(self):
        for changes, place in (
            ({2: 0}, 2), ({-1: 0}, -1), ({7: 0, 2: 0}, 2), ({9: 0, -1: 0, -4: 0}, -4), ({0: 5, 1: 3, 5: 0}, 5),
            ({0: 0, 8: 0}, 8), ({-1: 1, 0: 0}, -1),
        ):
            for call in self.WITH_WRITE:
                given = dict(changes)
                with self.assertRaises(BadPlace) as caught:
                    call(PAIR, (4, 9), given)
                self.assertEqual(caught.exception.place, place)
                self.assertEqual(given, changes)


if __name__ == "__main__":
    unittest.main()
