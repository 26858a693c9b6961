import random
import unittest
from itertools import product

from fieldrides.editions import change, change_plan, drop, drop_witness, graft, parting_pair, unlike_fields
from fieldrides.errors import BadForest, BadPlace, FieldridesError, FieldsDiffer, HangsOn
from fieldrides.forests import Forest
from tests.helpers import all_forests, end_in_turn, merged_by_words, path_of, random_forest, random_row

KINDS = ("up", "down", "first", "last")
ALL = {fields: all_forests(fields) for fields in (1, 2, 3)}
FORK = Forest([None, 0, 0, 1, 1], ["up", "down", "last", "first", "down"])
CHAIN = Forest([None, 0, 1, 2], ["up", "down", "up", "down"])


def shown(forest):
    return forest.parents, forest.kinds


def word_by_words(forest, field):
    return [(step, forest.kinds[step]) for step in path_of(forest.parents, field)]


def merged(forest, x, y):
    return merged_by_words(forest.parents, forest.kinds, x, y)


def chosen(record, fields):
    return tuple(record[field] for field in fields)


def beneath_by_words(forest, field):
    return {other for other in range(forest.fields) if field in path_of(forest.parents, other)} - {field}


def mutated(rng, forest, times):
    """Another forest that differs in few fields."""
    for _ in range(times):
        parents, kinds = list(forest.parents), list(forest.kinds)
        field = rng.randrange(forest.fields)
        parents[field] = rng.choice([None, *range(forest.fields)])
        kinds[field] = rng.choice(KINDS)
        try:
            forest = Forest(parents, kinds)
        except BadForest:
            pass
    return forest


def random_pairs(seed, many):
    rng = random.Random(seed)
    for at in range(many):
        first = random_forest(rng, rng.randrange(1, 9))
        second = random_forest(rng, first.fields) if at % 2 else mutated(rng, first, rng.randrange(1, 6))
        yield rng, first, second


class TwoForestsTest(unittest.TestCase):
    def check(self, first, second):
        fields = range(first.fields)
        unlike = [field for field in fields if word_by_words(first, field) != word_by_words(second, field)]
        self.assertEqual(unlike_fields(first, second), tuple(unlike))
        for field in fields:
            pair = parting_pair(first, second, field)
            if field not in unlike:
                self.assertIsNone(pair)
                continue
            self.assertIsInstance(pair, tuple)
            self.assertEqual([len(record) for record in pair], [first.fields] * 2)
            self.assertLessEqual(set(pair[0] + pair[1]), {0, 1})
            self.assertNotEqual(merged(first, *pair)[field], merged(second, *pair)[field])

    def test_single_forests(self):
        second = Forest([None, 0, 0, 1, 1], ["up", "up", "last", "first", "down"])
        self.assertEqual(unlike_fields(FORK, second), (1, 3, 4))
        self.assertEqual(unlike_fields(FORK, FORK), ())
        self.assertEqual(unlike_fields(Forest([None, 0], ["up", "up"]), Forest([None, None], ["up", "up"])), (1,))
        self.assertEqual(unlike_fields(Forest([None, 0], ["up", "up"]), Forest([1, None], ["up", "up"])), (0, 1))

    def test_all_forests_of_few_fields(self):
        for fields in (1, 2):
            for first, second in product(ALL[fields], repeat=2):
                self.check(first, second)
        rng = random.Random(1)
        for first in ALL[3]:
            for second in rng.sample(ALL[3], 12):
                self.check(first, second)

    def test_larger_forests(self):
        for _, first, second in random_pairs(2, 400):
            self.check(first, second)
        rng = random.Random(3)
        for _ in range(10):
            self.check(random_forest(rng, 16), random_forest(rng, 16))

    def test_like_fields_have_the_same_end_whichever_forest_merges(self):
        for rng, first, second in random_pairs(4, 300):
            row = random_row(rng, first.fields, rng.randrange(1, 7))
            like = [field for field in range(first.fields) if field not in unlike_fields(first, second)]
            wanted = chosen(end_in_turn(first, row), like)
            for _ in range(4):
                left = list(row)
                while len(left) > 1:
                    at = rng.randrange(len(left) - 1)
                    left[at:at + 2] = [merged(rng.choice((first, second)), left[at], left[at + 1])]
                self.assertEqual(chosen(left[0], like), wanted)

    def test_unlike_numbers_of_fields(self):
        for call in (unlike_fields, change_plan, lambda first, second: parting_pair(first, second, 99)):
            for first, second in ((FORK, CHAIN), (CHAIN, FORK)):
                with self.assertRaises(FieldsDiffer) as caught:
                    call(first, second)
                self.assertEqual((caught.exception.first, caught.exception.second), (first.fields, second.fields))
                self.assertIsInstance(caught.exception, FieldridesError)

    def test_fields_that_are_none(self):
        for field in (-1, 5, 10 ** 20):
            with self.assertRaises(BadPlace) as caught:
                parting_pair(FORK, FORK, field)
            self.assertEqual(caught.exception.place, field)
            self.assertIsInstance(caught.exception, FieldridesError)


class DropTest(unittest.TestCase):
    def test_single_forests(self):
        new, kept = drop(FORK, [3, 2, 3])
        self.assertEqual((shown(new), kept), (((None, 0, 1), ("up", "down", "down")), (0, 1, 4)))
        new, kept = drop(Forest([1, None, None, 2], ["first", "up", "down", "last"]), [0, 1])
        self.assertEqual((shown(new), kept), (((None, 0), ("down", "last")), (2, 3)))
        new, kept = drop(Forest([3, None, 3, None], ["up", "last", "down", "down"]), [1])
        self.assertEqual((shown(new), kept), (((2, 2, None), ("up", "down", "down")), (0, 2, 3)))

    def test_none_dropped(self):
        for forest in ALL[1] + ALL[2] + [FORK, CHAIN]:
            new, kept = drop(forest, [])
            self.assertEqual((shown(new), kept), (shown(forest), tuple(range(forest.fields))))
            self.assertIsNone(drop_witness(forest, []))

    def test_all_dropped(self):
        for forest, fields in ((FORK, [4, 3, 2, 1, 0]), (Forest([None], ["up"]), [0, 0]), (CHAIN, [0, 1, 2, 3, 0])):
            with self.assertRaises(BadForest) as caught:
                drop(forest, fields)
            self.assertIsNone(caught.exception.field)
            self.assertIsNone(drop_witness(forest, fields))

    def test_a_kept_field_beneath_dropped_ones(self):
        for forest, fields, kept, dropped in (
            (CHAIN, [0], 1, 0), (CHAIN, [1, 2], 3, 1), (CHAIN, [2, 1], 3, 1), (CHAIN, [0, 2], 1, 0),
            (CHAIN, [2, 2], 3, 2),
            (FORK, [1], 3, 1), (FORK, [1, 3], 4, 1), (FORK, [1, 0], 2, 0), (FORK, [0, 1, 2], 3, 0),
            (Forest([1, 2, None], ["up"] * 3), [1, 2], 0, 2), (Forest([2, 0, None], ["up"] * 3), [2, 0], 1, 2),
        ):
            with self.assertRaises(HangsOn) as caught:
                drop(forest, fields)
            self.assertEqual((caught.exception.kept, caught.exception.dropped), (kept, dropped))
            self.assertIsInstance(caught.exception, FieldridesError)

    def test_entries_that_are_no_field(self):
        for call in (drop, drop_witness):
            for fields, place in (([4], 4), ([-1, 9], -1), ([0, 1, 9, -1], 9), ([0, 1, 2, 3, 4], 4)):
                given = list(fields)
                with self.assertRaises(BadPlace) as caught:
                    call(CHAIN, given)
                self.assertEqual(caught.exception.place, place)
                self.assertEqual(given, fields)

    def check(self, rng, forest, fields):
        left = tuple(field for field in range(forest.fields) if field not in fields)
        hanging = [field for field in left if set(path_of(forest.parents, field)) & set(fields)]
        witness = drop_witness(forest, fields)
        if not hanging:
            self.assertIsNone(witness)
            if left:
                new, kept = drop(forest, fields)
                self.assertEqual(kept, left)
                row = random_row(rng, forest.fields, rng.randrange(1, 6))
                wanted = chosen(end_in_turn(forest, row), kept)
                self.assertEqual(end_in_turn(new, [chosen(record, kept) for record in row]), wanted)
                for number, field in enumerate(kept):
                    word = [(kept[step], kind) for step, kind in word_by_words(new, number)]
                    self.assertEqual(word, word_by_words(forest, field))
            return
        with self.assertRaises(HangsOn) as caught:
            drop(forest, fields)
        above = [step for step in path_of(forest.parents, hanging[0]) if step in fields]
        self.assertEqual((caught.exception.kept, caught.exception.dropped), (hanging[0], above[0]))
        self.assertIsInstance(witness, tuple)
        x, y, u, v = witness
        for record in witness:
            self.assertEqual(len(record), forest.fields)
            self.assertLessEqual(set(record), {0, 1})
        self.assertEqual((chosen(x, left), chosen(y, left)), (chosen(u, left), chosen(v, left)))
        self.assertNotEqual(chosen(merged(forest, x, y), left), chosen(merged(forest, u, v), left))

    def test_all_forests_of_few_fields(self):
        rng = random.Random(5)
        for fields in (1, 2, 3):
            for forest in ALL[fields]:
                for mask in range(1 << fields):
                    self.check(rng, forest, [field for field in range(fields) if mask >> field & 1])

    def test_larger_forests(self):
        rng = random.Random(6)
        for _ in range(800):
            forest = random_forest(rng, rng.randrange(4, 9))
            start = [field for field in range(forest.fields) if rng.random() < 0.25]
            beneath = {low for field in start for low in beneath_by_words(forest, field)}
            fields = start + sorted(beneath) if rng.random() < 0.6 else start
            rng.shuffle(fields)
            self.check(rng, forest, fields + fields[:1])


class GraftTest(unittest.TestCase):
    def test_new_fields(self):
        self.assertEqual(shown(graft(CHAIN, 3, "last")), ((None, 0, 1, 2, 3), CHAIN.kinds + ("last",)))
        self.assertEqual(shown(graft(CHAIN, None, "down")), ((None, 0, 1, 2, None), CHAIN.kinds + ("down",)))
        self.assertEqual(shown(CHAIN), ((None, 0, 1, 2), ("up", "down", "up", "down")))

    def test_no_word_of_an_old_field_changes(self):
        rng = random.Random(7)
        for _ in range(200):
            forest = random_forest(rng, rng.randrange(1, 9), fair=rng.random() < 0.5)
            parents = [field for field in range(forest.fields) if forest.kinds[field] in ("up", "down")]
            after = graft(forest, rng.choice([None] + parents), rng.choice(KINDS))
            self.assertEqual(after.fields, forest.fields + 1)
            for field in range(forest.fields):
                self.assertEqual(word_by_words(after, field), word_by_words(forest, field))

    def test_the_sixteenth_and_the_seventeenth_field(self):
        forest = Forest([None] * 15, ["up"] * 15)
        full = graft(forest, 14, "first")
        self.assertEqual((full.fields, full.parents[15], full.kinds[15]), (16, 14, "first"))
        for parent in (None, 3, 99, 16, 15):
            with self.assertRaises(BadForest) as caught:
                graft(full, parent, "up")
            self.assertIsNone(caught.exception.field)

    def test_parents_that_make_no_forest(self):
        for parent, kind, field in (
            (5, "up", 5), (6, "up", 5), (-1, "down", 5), (2, "up", 2), (3, "first", 3), (10 ** 20, "last", 5),
            (5, "last", 5),
        ):
            with self.assertRaises(BadForest) as caught:
                graft(FORK, parent, kind)
            self.assertEqual(caught.exception.field, field)
            self.assertIsInstance(caught.exception, FieldridesError)


class ChangeTest(unittest.TestCase):
    def test_single_changes(self):
        self.assertEqual(shown(change(CHAIN, 3, 0, "first")), ((None, 0, 1, 0), ("up", "down", "up", "first")))
        self.assertEqual(shown(change(CHAIN, 2, None, "down")), ((None, 0, None, 2), ("up", "down", "down", "down")))
        self.assertEqual(shown(change(CHAIN, 1, 0, "down")), shown(CHAIN))

    def test_changes_that_make_no_forest(self):
        for field, parent, kind, bad in (
            (0, 0, "up", 0), (2, 2, "up", 2), (0, 3, "up", 0), (1, 3, "down", 1), (1, 4, "up", 1), (3, -1, "up", 3),
            (2, 1, "first", 2), (0, None, "last", 0),
        ):
            with self.assertRaises(BadForest) as caught:
                change(CHAIN, field, parent, kind)
            self.assertEqual(caught.exception.field, bad)
            self.assertIsInstance(caught.exception, FieldridesError)
        with self.assertRaises(BadForest) as caught:
            change(FORK, 4, 3, "up")
        self.assertEqual(caught.exception.field, 3)
        self.assertEqual(shown(CHAIN), ((None, 0, 1, 2), ("up", "down", "up", "down")))

    def test_fields_that_are_none(self):
        for field in (-1, 4, 10 ** 20):
            for parent in (None, 99):
                with self.assertRaises(BadPlace) as caught:
                    change(CHAIN, field, parent, "up")
                self.assertEqual(caught.exception.place, field)
                self.assertIsInstance(caught.exception, FieldridesError)

    def test_exactly_the_words_of_the_field_and_of_those_beneath_it_change(self):
        rng = random.Random(8)
        made = 0
        while made < 300:
            forest = random_forest(rng, rng.randrange(2, 9))
            field = rng.randrange(forest.fields)
            parent, kind = rng.choice([None, *range(forest.fields)]), rng.choice(KINDS)
            try:
                after = change(forest, field, parent, kind)
            except BadForest:
                continue
            made += 1
            same = (parent, kind) == (forest.parents[field], forest.kinds[field])
            wanted = [] if same else sorted({field} | beneath_by_words(forest, field))
            self.assertEqual(unlike_fields(forest, after), tuple(wanted))


class ChangePlanTest(unittest.TestCase):
    def order_by_words(self, first, second):
        def above(forest, field):
            return len(path_of(forest.parents, field)) - 1

        differing = [
            field for field in range(first.fields)
            if (first.parents[field], first.kinds[field]) != (second.parents[field], second.kinds[field])
        ]
        ranked = [field for field in differing if second.kinds[field] in ("up", "down")]
        others = [field for field in differing if field not in ranked]
        ranked.sort(key=lambda field: (above(second, field), field))
        others.sort(key=lambda field: (-above(first, field), field))
        return ranked + others

    def check(self, first, second):
        plan = change_plan(first, second)
        self.assertIsInstance(plan, list)
        order = self.order_by_words(first, second)
        self.assertEqual(plan, [(field, second.parents[field], second.kinds[field]) for field in order])
        same = [f for f in range(first.fields) if word_by_words(first, f) == word_by_words(second, f)]
        forest = first
        for field, parent, kind in plan:
            forest = change(forest, field, parent, kind)
            for other in same:
                self.assertEqual(word_by_words(forest, other), word_by_words(first, other))
        self.assertEqual(shown(forest), shown(second))

    def test_the_same_forest_twice(self):
        for forest in ALL[2] + [FORK, CHAIN]:
            self.assertEqual(change_plan(forest, forest), [])

    def test_a_turned_chain(self):
        turned = Forest([1, 2, 3, None], ["up", "down", "up", "down"])
        self.assertEqual(change_plan(CHAIN, turned), [(3, None, "down"), (2, 3, "up"), (1, 2, "down"), (0, 1, "up")])

    def test_parents_that_become_leaves_of_kind_first_or_last(self):
        second = Forest([3, 0, 0, None], ["up", "first", "last", "down"])
        self.assertEqual(
            change_plan(CHAIN, second), [(3, None, "down"), (0, 3, "up"), (2, 0, "last"), (1, 0, "first")],
        )
        roots = Forest([None] * 4, ["last", "first", "last", "first"])
        self.assertEqual(
            change_plan(CHAIN, roots), [(3, None, "first"), (2, None, "last"), (1, None, "first"), (0, None, "last")],
        )

    def test_all_forests_of_few_fields(self):
        for fields in (1, 2):
            for first, second in product(ALL[fields], repeat=2):
                self.check(first, second)
        rng = random.Random(9)
        for first in ALL[3]:
            for second in rng.sample(ALL[3], 25):
                self.check(first, second)

    def test_larger_forests(self):
        for _, first, second in random_pairs(10, 1500):
            self.check(first, second)

    def test_each_list_is_a_new_one(self):
        roots = Forest([None] * 4, ["up"] * 4)
        found = change_plan(CHAIN, roots)
        found.clear()
        self.assertEqual(len(change_plan(CHAIN, roots)), 3)


class ArgumentsAreKeptTest(unittest.TestCase):
    def test_lists_are_not_changed(self):
        fields = [3, 2, 3]
        self.assertEqual(drop(FORK, fields)[1], (0, 1, 4))
        self.assertIsNone(drop_witness(FORK, fields))
        self.assertEqual(fields, [3, 2, 3])


if __name__ == "__main__":
    unittest.main()
