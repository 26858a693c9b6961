import random
import unittest

from fieldrides.trees import asked, ends, follow, least_tree, mirror_tree, needed_fields
from tests.helpers import (
    all_rows, count_asks, disguised, end_of, function_of, large_tree, random_tree, tree_of_function,
)

UP = (0, "newer", "older", "older")
RIDING = (1, "newer", UP, "older")


def least_by_definition(function, field, order):
    """The least tree after point 9, from the table of the function alone."""
    if not order:
        sides = set(function.values())
        assert len(sides) == 1
        return sides.pop()
    asking, rest = order[0], order[1:]
    parts = {}
    for row, side in function.items():
        fixed = row[:asking] + (None,) + row[asking + 1:]
        parts.setdefault(row[asking], {})[fixed] = side
    trees = {mark: least_by_definition(part, field, rest) for mark, part in parts.items()}
    tables = list(parts.values())
    if all(table == tables[0] for table in tables):
        return trees[1]
    return (asking, trees[-1], "older" if asking == field else trees[0], trees[1])


def order_of(field, fields):
    return [field] + [other for other in range(fields) if other != field]


def needed_by_definition(function, fields):
    needed = []
    for other in range(fields):
        pairs = [
            (side, function.get(row[:other] + (mark,) + row[other + 1:], side))
            for row, side in function.items() for mark in (-1, 0, 1)
        ]
        if any(one != two for one, two in pairs):
            needed.append(other)
    return tuple(needed)


class FollowTest(unittest.TestCase):
    def test_an_end_alone_is_followed_at_once(self):
        self.assertEqual(follow("older", (1, -1)), "older")
        self.assertEqual(follow("newer", (0,)), "newer")

    def test_an_ask_goes_on_by_the_sign_of_its_field(self):
        self.assertEqual([follow(RIDING, row) for row in ((0, -1), (0, 1), (-1, 0), (1, 0), (0, 0))],
                         ["newer", "older", "newer", "older", "older"])

    def test_a_field_asked_twice_has_one_sign(self):
        tree = (0, (0, "newer", "older", "older"), "older", (0, "newer", "newer", "older"))
        self.assertEqual([follow(tree, (mark,)) for mark in (-1, 0, 1)], ["newer", "older", "older"])

    def test_random_trees(self):
        rng = random.Random(1)
        for _ in range(50):
            tree = random_tree(rng, 3, 5, ends=("older", "newer", "clash"))
            for row in all_rows(3):
                self.assertEqual(follow(tree, row), end_of(tree, row))

    def test_20_asks_on_one_branch(self):
        tree = "newer"
        for number in range(20):
            tree = (number // 2, "older", tree, "older")
        self.assertEqual(follow(tree, (0,) * 10), "newer")
        self.assertEqual(follow(tree, (0,) * 9 + (1,)), "older")


class EndsTest(unittest.TestCase):
    def test_ends_stand_in_written_order_and_repeat(self):
        self.assertEqual(ends("older"), ("older",))
        self.assertEqual(ends(RIDING), ("newer", "newer", "older", "older", "older"))
        self.assertEqual(ends((0, (1, "older", "older", "newer"), "newer", "older")),
                         ("older", "older", "newer", "newer", "older"))

    def test_clash_is_an_end_here(self):
        tree = (2, "clash", (0, "newer", "clash", "older"), "older")
        self.assertEqual(ends(tree), ("clash", "newer", "clash", "older", "older"))
        self.assertEqual(asked(tree), (0, 2))
        self.assertEqual(follow(tree, (0, 1, 0)), "clash")
        self.assertEqual([ends("clash"), asked("clash"), follow("clash", ())], [("clash",), (), "clash"])

    def test_400_asks_have_801_ends(self):
        tree = large_tree(random.Random(2), 6, 400)
        self.assertEqual(count_asks(tree), 400)
        self.assertEqual(len(ends(tree)), 801)
        self.assertEqual(asked(tree), (0, 1, 2, 3, 4, 5))

    def test_asked_is_ascending_without_duplicates(self):
        self.assertEqual(asked("newer"), ())
        self.assertEqual(asked((3, (1, "older", "newer", "older"), (3, "older", "older", "older"), UP)), (0, 1, 3))
        self.assertEqual(asked((9, (9, "older", "older", "older"), "older", "newer")), (9,))


class LeastTreeTest(unittest.TestCase):
    def test_the_example_of_the_document(self):
        self.assertEqual(follow((1, "newer", UP, "older"), (-1, 0)), "newer")
        self.assertEqual(least_tree((1, "older", UP, "older"), 0, 2),
                         (0, (1, "older", "newer", "older"), "older", "older"))

    def test_an_end_is_its_own_least_tree(self):
        for field in range(3):
            self.assertEqual(least_tree("newer", field, 3), "newer")

    def test_three_equal_branches_are_left_out(self):
        self.assertEqual(least_tree((1, UP, UP, UP), 0, 2), UP)
        self.assertEqual(least_tree((1, "older", "older", "older"), 0, 2), "older")

    def test_the_sign_0_of_the_field_itself_does_not_count(self):
        self.assertEqual(least_tree((0, "newer", (1, "newer", "older", "newer"), "older"), 0, 2), UP)
        self.assertEqual(least_tree((0, "newer", "older", "newer"), 0, 2), "newer")
        self.assertEqual(needed_fields((0, "older", (1, "newer", "older", "newer"), "older"), 0, 2), ())
        self.assertEqual(least_tree((0, "newer", "newer", "older"), 0, 1), UP)

    def test_the_field_itself_comes_first_then_the_others_ascending(self):
        tree = (2, (0, "newer", "older", "newer"), (1, "older", "older", "newer"), (1, UP, UP, "newer"))
        self.check_order(least_tree(tree, 1, 3), [1, 0, 2])
        rng = random.Random(8)
        for _ in range(50):
            field = rng.randrange(4)
            self.check_order(least_tree(random_tree(rng, 4, 4), field, 4), order_of(field, 4))

    def check_order(self, tree, order):
        if isinstance(tree, str):
            return
        self.assertIn(tree[0], order)
        for branch in tree[1:]:
            self.check_order(branch, order[order.index(tree[0]) + 1:])

    def test_random_trees_against_the_definition(self):
        rng = random.Random(3)
        for _ in range(400):
            fields = rng.randrange(1, 5)
            field = rng.randrange(fields)
            tree = random_tree(rng, fields, rng.randrange(0, 6))
            function = function_of(tree, field, fields)
            least = least_by_definition(function, field, order_of(field, fields))
            self.assertEqual(least_tree(tree, field, fields), least)
            self.assertEqual(needed_fields(tree, field, fields), needed_by_definition(function, fields))
            self.assertEqual(needed_fields(tree, field, fields), asked(least))

    def test_least_trees_are_equal_exactly_if_the_functions_are(self):
        rng = random.Random(4)
        trees = [random_tree(rng, 2, 2) for _ in range(60)]
        for one in trees:
            for two in trees:
                same = function_of(one, 0, 2) == function_of(two, 0, 2)
                self.assertEqual(least_tree(one, 0, 2) == least_tree(two, 0, 2), same)

    def test_needless_asks_change_nothing(self):
        rng = random.Random(5)
        for _ in range(100):
            tree = random_tree(rng, 4, 3)
            other = disguised(rng, tree, 4, 5)
            for field in range(4):
                self.assertEqual(least_tree(other, field, 4), least_tree(tree, field, 4))

    def test_trees_with_400_asks(self):
        rng = random.Random(6)
        for fields in (3, 4):
            tree = large_tree(rng, fields, 400)
            least = least_by_definition(function_of(tree, 0, fields), 0, order_of(0, fields))
            self.assertEqual(least_tree(tree, 0, fields), least)
        tree = large_tree(rng, 10, 400)
        least = least_tree(tree, 9, 10)
        self.assertEqual(needed_fields(tree, 9, 10), asked(least))
        for _ in range(300):
            row = tuple([rng.choice((-1, 0, 1)) for _ in range(9)]) + (rng.choice((-1, 1)),)
            self.assertEqual(end_of(least, row), end_of(tree, row))

    def test_all_fields_of_the_document_can_be_asked(self):
        tree = tree_of_function(4, lambda row: "newer" if sum(row) < 0 else "older")
        self.assertEqual(needed_fields(tree, 2, 4), (0, 1, 2, 3))
        self.assertEqual(needed_fields((9, "older", "newer", "older"), 0, 10), (9,))


class MirrorTreeTest(unittest.TestCase):
    def test_mirror_exchanges_branches_and_ends(self):
        self.assertEqual([mirror_tree("older"), mirror_tree("newer")], ["newer", "older"])
        self.assertEqual(mirror_tree((1, "newer", (0, "newer", "newer", "older"), "newer")),
                         (1, "older", (0, "newer", "older", "older"), "older"))

    def test_mirror_gives_the_other_side_for_the_turned_row(self):
        rng = random.Random(7)
        other = {"older": "newer", "newer": "older"}
        for _ in range(50):
            tree = random_tree(rng, 3, 4)
            mirror = mirror_tree(tree)
            self.assertEqual(mirror_tree(mirror), tree)
            for row in all_rows(3):
                turned = tuple([-mark for mark in row])
                self.assertEqual(end_of(mirror, turned), other[end_of(tree, row)])


if __name__ == "__main__":
    unittest.main()
