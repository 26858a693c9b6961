"""What several tests share: rows, records, random trees and forests, and oracles that use no code of the program."""

from itertools import product

from fieldrides.forests import Forest, book_of

# Forests that are not fair, each with the field that NotFair names.
UNFAIR = (
    (Forest([None, 0, 0], ["up", "last", "first"]), 1), (Forest([None, None], ["first", "up"]), 0),
    (Forest([1, None], ["last", "down"]), 0),
)


def all_rows(fields):
    return list(product((-1, 0, 1), repeat=fields))


def all_records(fields, values):
    return list(product(values, repeat=fields))


def count_asks(tree):
    return 0 if isinstance(tree, str) else 1 + sum(count_asks(branch) for branch in tree[1:])


def random_tree(rng, fields, depth, asking=0.7, ends=("older", "newer")):
    if depth == 0 or rng.random() > asking:
        return rng.choice(ends)
    return (rng.randrange(fields), *(random_tree(rng, fields, depth - 1, asking, ends) for _ in range(3)))


def large_tree(rng, fields, asks):
    """A tree with exactly so many asks, of which 20 stand on one branch."""
    def even(left):
        if left <= 0:
            return rng.choice(("older", "newer"))
        third = (left - 1) // 3
        return (rng.randrange(fields), even(left - 1 - 2 * third), even(third), even(third))

    tree = even(asks - 14)
    for _ in range(14):
        branches = [rng.choice(("older", "newer")) for _ in range(3)]
        branches[rng.randrange(3)] = tree
        tree = (rng.randrange(fields), *branches)
    return tree


def restricted(tree, field, mark):
    if isinstance(tree, str):
        return tree
    if tree[0] == field:
        return restricted(tree[mark + 2], field, mark)
    return (tree[0], *(restricted(branch, field, mark) for branch in tree[1:]))


def with_needless_ask(rng, tree, fields):
    """Another tree with the same function: one more ask stands somewhere in it."""
    if isinstance(tree, str) or rng.random() < 0.4:
        field = rng.randrange(fields)
        branches = [restricted(tree, field, mark) if rng.random() < 0.6 else tree for mark in (-1, 0, 1)]
        return (field, *branches)
    at = rng.randrange(1, 4)
    return tree[:at] + (with_needless_ask(rng, tree[at], fields),) + tree[at + 1:]


def disguised(rng, tree, fields, times):
    for _ in range(times):
        tree = with_needless_ask(rng, tree, fields)
    return tree


def end_number(tree, row, first=0):
    """The number in written order of the end to which the row leads."""
    if isinstance(tree, str):
        return first
    for mark in (-1, 0, 1):
        if row[tree[0]] == mark:
            return end_number(tree[mark + 2], row, first)
        first += 2 * count_asks(tree[mark + 2]) + 1
    raise AssertionError("no sign")


def end_of(tree, row):
    return tree if isinstance(tree, str) else end_of(tree[row[tree[0]] + 2], row)


def function_of(tree, field, fields):
    return {row: end_of(tree, row) for row in all_rows(fields) if row[field] != 0}


def tree_of_function(fields, side, row=()):
    """The tree that asks all fields in order and has the end side(row) for each row."""
    if len(row) == fields:
        return side(row)
    return (len(row), *(tree_of_function(fields, side, row + (mark,)) for mark in (-1, 0, 1)))


def random_forest(rng, fields, fair=False):
    order = list(range(fields))
    rng.shuffle(order)
    parents = [None] * fields
    for at, field in enumerate(order):
        if at and rng.random() < 0.75:
            parents[field] = order[rng.randrange(at)]
    ranked = ("up", "down")
    free = ranked if fair else ranked + ("first", "last")
    kinds = [rng.choice(ranked if field in parents else free) for field in range(fields)]
    return Forest(parents, kinds)


def all_forests(fields):
    found = []
    for parents in product((None, *range(fields)), repeat=fields):
        for kinds in product(("up", "down", "first", "last"), repeat=fields):
            try:
                found.append(Forest(parents, kinds))
            except ValueError:
                pass
    return found


def merged_by_words(parents, kinds, older, newer):
    """The merge by a forest, word for word after point 21."""
    merged = []
    for field in range(len(parents)):
        path = [field]
        while parents[path[0]] is not None:
            path.insert(0, parents[path[0]])
        unlike = [step for step in path if older[step] != newer[step]]
        if not unlike:
            merged.append(older[field])
            continue
        kind, low, high = kinds[unlike[0]], older[unlike[0]], newer[unlike[0]]
        from_older = {"up": low > high, "down": low < high, "first": True, "last": False}[kind]
        merged.append(older[field] if from_older else newer[field])
    return tuple(merged)


def rows_alike(book):
    """Whether the book merges every three records with values 0, 1 and 2 alike."""
    records = all_records(book.fields, (0, 1, 2))
    numbers = {record: number for number, record in enumerate(records)}
    merged = [[numbers[book(x, y)] for y in records] for x in records]
    for x in merged:
        for y, after in zip(x, merged):
            if merged[y] != [x[end] for end in after]:
                return False
    return True


def disguised_book_trees(rng, forest, times):
    return [disguised(rng, tree, forest.fields, times) for tree in book_of(forest).trees]


def ways_end(parents):
    for field in range(len(parents)):
        seen = []
        while field is not None:
            if field in seen:
                return False
            seen.append(field)
            field = parents[field]
    return True


def all_shapes(fields):
    """All tuples of parents that some forest has."""
    return [parents for parents in product((None, *range(fields)), repeat=fields) if ways_end(parents)]


def path_of(parents, field):
    return (() if parents[field] is None else path_of(parents, parents[field])) + (field,)


def random_record(rng, fields, values=3):
    return tuple([rng.randrange(values) for _ in range(fields)])


def random_row(rng, fields, many, values=3):
    return [random_record(rng, fields, values) for _ in range(many)]


def end_in_turn(forest, records):
    """The end of the row when the records are merged from left to right, word for word after point 21."""
    end = records[0]
    for record in records[1:]:
        end = merged_by_words(forest.parents, forest.kinds, end, record)
    return end


def end_of_neighbours(rng, forest, records):
    """The end of the row when neighbours are merged in a random order."""
    row = list(records)
    while len(row) > 1:
        at = rng.randrange(len(row) - 1)
        row[at:at + 2] = [merged_by_words(forest.parents, forest.kinds, row[at], row[at + 1])]
    return row[0]


def end_in_any_order(rng, forest, records):
    """The end when records are taken in a random order, and some of them several times."""
    lot = list(records) + rng.choices(records, k=3)
    rng.shuffle(lot)
    return end_of_neighbours(rng, forest, lot)


def below_by_words(forest, x, y):
    """Whether x is below y, word for word after point 49."""
    for field in range(forest.fields):
        unlike = [step for step in path_of(forest.parents, field) if x[step] != y[step]]
        if unlike:
            higher = y[unlike[0]] > x[unlike[0]]
            if higher != (forest.kinds[unlike[0]] == "up"):
                return False
    return True
