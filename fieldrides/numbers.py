"""How many forests there are, and their numbers."""

from math import comb

from fieldrides.errors import BadNumber
from fieldrides.forests import Forest, check_fair


def power(base, exponent):
    """The base multiplied with itself so many times."""
    result = 1
    for _ in range(exponent):
        result = result * base
    return result


def count_shapes(fields):
    """The number of shapes with so many fields."""
    return power(fields + 1, fields - 1)


def count_fair(fields):
    """The number of fair forests with so many fields."""
    return count_shapes(fields) * (1 << fields)


def count_forests(fields):
    """The number of all forests with so many fields."""
    # A leaf has 4 kinds to choose from, every other field 2.
    total = 0
    for leaves in range(fields + 1):
        total = total + count_by_leaves(fields, leaves) * (1 << (fields + leaves))
    return total


def count_by_roots(fields, roots):
    """The number of shapes with exactly so many roots."""
    if roots < 1 or roots > fields:
        return 0
    return comb(fields - 1, roots - 1) * power(fields, fields - roots)


def count_by_leaves(fields, leaves):
    """The number of shapes with exactly so many leaves."""
    # A field is a leaf if it does not occur in the shape word, so words are counted by the fields that occur:
    # words[k] is the number of words, as long as the rounds so far, in which k fields occur.
    words = [1] + [0] * fields
    for _ in range(fields - 1):
        longer = [words[0]]
        for many in range(1, fields + 1):
            longer.append(words[many] * (many + 1) + words[many - 1] * (fields - many + 1))
        words = longer
    if leaves < 0 or leaves > fields:
        return 0
    return words[fields - leaves]


def count_low(fields, height):
    """The number of shapes in which each path has at most so many fields."""
    # shapes[k] is the number of such shapes with k fields, for heights that grow from 0 on.
    shapes = [1] + [0] * fields
    for _ in range(height):
        shapes = one_higher(shapes)
    return shapes[fields]


def one_higher(shapes):
    """The numbers of shapes with 0, 1, .. fields for paths with one field more."""
    higher = [1]
    for fields in range(1, len(shapes)):
        total = 0
        # Each shape is the tree that field 0 stands in, of some size, and the shape of the other fields.
        for size in range(1, fields + 1):
            trees = comb(fields - 1, size - 1) * size * shapes[size - 1]
            total = total + trees * higher[fields - size]
        higher.append(total)
    return higher


def shape_word(parents):
    """The word of the shape with these parents."""
    word = []
    there = list(range(len(parents)))
    for _ in range(len(parents) - 1):
        held = [parents[field] for field in there]
        taken = max([field for field in there if field not in held])
        there.remove(taken)
        word.append(0 if parents[taken] is None else 1 + parents[taken])
    return tuple(word)


def parents_of_word(word):
    """The parents of the shape with this word."""
    parents = [None] * (len(word) + 1)
    there = list(range(len(parents)))
    for at, entry in enumerate(word):
        # What occurs in the rest of the word is still a parent.
        taken = max([field for field in there if 1 + field not in word[at:]])
        there.remove(taken)
        parents[taken] = None if entry == 0 else entry - 1
    return parents


def number_of(forest):
    """The number of the fair forest."""
    check_fair(forest)
    number = 0
    for entry in shape_word(forest.parents):
        number = number * (forest.fields + 1) + entry
    number = number * (1 << forest.fields)
    return number + sum([1 << field for field, kind in enumerate(forest.kinds) if kind == "down"])


def word_at(fields, number):
    """The shape word with this shape number."""
    word = []
    for _ in range(fields - 1):
        number, entry = divmod(number, fields + 1)
        word.append(entry)
    return tuple(reversed(word))


def forest_at(fields, number):
    """The fair forest with this number."""
    if number < 0 or number >= count_fair(fields):
        raise BadNumber(number)
    shape, downs = divmod(number, 1 << fields)
    kinds = ["down" if (downs >> field) & 1 == 1 else "up" for field in range(fields)]
    return Forest(parents_of_word(word_at(fields, shape)), kinds)


def fair_forests(fields):
    """All fair forests with so many fields, in ascending order of their numbers."""
    for number in range(count_fair(fields)):
        yield forest_at(fields, number)
