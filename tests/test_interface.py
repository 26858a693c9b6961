"""The names of the interface: each one is defined in its own file, with the arguments that the document lists."""

import importlib
import inspect
import unittest

FUNCTIONS = {
    "tools": ["sign(older, newer)", "signs(older, newer)", "better(kind, value, other)", "raised(kind, value, by)"],
    "trees": [
        "follow(tree, row)", "ends(tree)", "asked(tree)", "least_tree(tree, field, fields)",
        "needed_fields(tree, field, fields)", "mirror_tree(tree)",
    ],
    "treetext": ["write_tree(tree)", "read_tree(text)"],
    "books": ["least_book(book)", "mirror_book(book)", "differing_pair(first, second)", "unfair_pair(book)"],
    "booktext": ["write_book(book)", "read_book(text)"],
    "forests": [
        "first_unlike(forest, field, first, second)", "turned_forest(forest)", "mirror_forest(forest)",
        "book_of(forest)",
    ],
    "words": [
        "tree_of_word(word)", "word_of_tree(tree, field, fields)", "stand_together(first, second)",
        "forest_of_words(fields, words)",
    ],
    "foresttext": ["write_forest(forest)", "read_forest(text)"],
    "judge": ["decide(book, *, order='rows')", "check_verdict(book, verdict, *, order='rows')"],
    "numbers": [
        "count_shapes(fields)", "count_fair(fields)", "count_forests(fields)", "count_by_roots(fields, roots)",
        "count_by_leaves(fields, leaves)", "count_low(fields, height)", "shape_word(parents)", "number_of(forest)",
        "forest_at(fields, number)", "fair_forests(fields)",
    ],
    "teller": ["most_questions(fields)", "fewest_questions(fields)"],
    "rows": [
        "row_end(forest, records)", "class_count(forest)", "keepers(forest, records)", "needy_row(forest)",
        "can_strike(forest, records, index)",
    ],
    "moments": ["press_moments(forest, records, *, behind=True)", "bad_moment(forest, *, behind=True)"],
    "stamps": ["stamped(forest)", "stamp_row(forest, records)"],
    "plans": [
        "run_plan(book, plan, records)", "all_ends(book, records, *, order='rows')",
        "plan_for(book, records, end, *, order='rows')", "unlike_plans(book, records, *, order='rows')",
    ],
    "lots": [
        "lot_end(forest, records)", "bearers(forest, records, field)", "fewest_records(forest, records)",
        "spare_records(forest, records, losses)", "needy_lot(forest, losses)", "ends_without(forest, records)",
        "mixed_lot(forest, first, second)", "never_mixed(forest)",
    ],
    "lattice": ["is_below(forest, first, second)", "meet(forest, records)"],
    "runs": [
        "run_steps(forest, sizes)", "rank_of(forest, sizes, record)", "changes_left(forest, sizes, record)",
        "count_below(forest, sizes, record)", "count_runs(forest, sizes)", "longest_run(forest, sizes)",
    ],
    "writes": [
        "written(forest, base, changes)", "lands(forest, base, changes)", "blocked_fields(forest, base, changes)",
        "nearest_raises(forest, base, changes)", "fewest_raises(forest, base, changes)",
        "with_raises(forest, base, changes, stamps)", "reach(forest, fields)", "both_stay(forest, first, second)",
    ],
    "letters": [
        "receive(forest, copy, letter)", "winning_fields(forest, known, copy)", "least_letter(forest, known, copy)",
        "left_out_shows(forest, known, copy, field)",
    ],
    "firm": ["firm_fields(forest, copy, bound)", "moving_letter(forest, copy, bound, field)"],
    "editions": [
        "unlike_fields(first, second)", "parting_pair(first, second, field)", "drop(forest, fields)",
        "drop_witness(forest, fields)", "graft(forest, parent, kind)", "change(forest, field, parent, kind)",
        "change_plan(first, second)",
    ],
    "mends": ["book_words(book)", "mend(book)"],
    "plain": ["clash_pair(plain_book, records, which)", "count_plain(fields, plain)"],
    "plainjudge": ["decide_plain(forest, tree)"],
    "houses": ["replayed(forest, start, houses, journal)"],
}

CLASSES = {
    ("books", "Book"): ["__init__(self, trees)", "__call__(self, older, newer)", "side(self, field, row)"],
    ("forests", "Forest"): [
        "__init__(self, parents, kinds)", "__call__(self, older, newer)", "path(self, field)", "word(self, field)",
        "children(self, field)", "beneath(self, field)",
    ],
    ("judge", "Verdict"): ["__init__(self, forest, settled, records)", "__bool__(self)"],
    ("teller", "Teller"): ["__init__(self, fields)", "question(self)", "answer(self, record)", "found(self)"],
    ("hider", "Hider"): ["__init__(self, fields)", "reply(self, older, newer)", "remaining(self)"],
    ("logs", "Log"): [
        "__init__(self, forest)", "put(self, record)", "mark(self)", "release(self, mark)", "read(self, mark=None)",
        "press(self, place)", "press_all(self)", "marks(self)", "__len__(self)", "__iter__(self)",
    ],
    ("lattice", "Copy"): ["__init__(self, forest, record)", "__or__(self, other)", "__and__(self, other)"],
    ("plain", "PlainBook"): ["__init__(self, forest, hangs)", "__call__(self, older, newer)", "end(self, records)"],
    ("plainjudge", "PlainVerdict"): ["__init__(self, alike, hang, records)"],
    ("houses", "Web"): [
        "__init__(self, forest, start, houses)", "write(self, house, changes)", "send(self, house, to)",
        "deliver(self, number)", "keep(self, house)", "fall(self, house)", "acknowledge(self, number)",
        "copy_of(self, house)", "kept_of(self, house)", "floor_of(self, house, to)", "heard_by(self, house)",
        "record_of(self, number)", "letter_of(self, number)", "journal(self)",
    ],
    ("desk", "Desk"): ["__init__(self)", "run(self, line)", "run_all(self, lines)", "journal(self)"],
}


class InterfaceTest(unittest.TestCase):
    def test_functions(self):
        for name, signatures in FUNCTIONS.items():
            module = importlib.import_module(f"fieldrides.{name}")
            for text in signatures:
                function = getattr(module, text.partition("(")[0])
                self.assertEqual(function.__module__, module.__name__)
                self.assertEqual(function.__name__ + str(inspect.signature(function)), text)

    def test_classes(self):
        for (name, kind), signatures in CLASSES.items():
            module = importlib.import_module(f"fieldrides.{name}")
            found = getattr(module, kind)
            self.assertEqual(found.__module__, module.__name__)
            for text in signatures:
                method = vars(found)[text.partition("(")[0]]
                self.assertEqual(method.__name__ + str(inspect.signature(method)), text)

    def test_properties(self):
        forest = importlib.import_module("fieldrides.forests").Forest
        for name in ("roots", "leaves", "fair"):
            self.assertIsInstance(vars(forest)[name], property)


if __name__ == "__main__":
    unittest.main()
