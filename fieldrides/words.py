"""Words: paths of fields with their kinds, which stand by themselves."""

from fieldrides.errors import WordsClash
from fieldrides.forests import Forest
from fieldrides.kinds import is_ranked, kind_by, tree_along
from fieldrides.walks import common_side, narrowed, nothing_known


def tree_of_word(word):
    """The tree of the word."""
    return tree_along(word)


def deciding_kind(tree, field, known, step):
    """The kind by which the step alone decides the side of the field when its sign is not 0, or None."""
    less = common_side(tree, field, narrowed(known, step, -1))
    more = common_side(tree, field, narrowed(known, step, 1))
    return kind_by(less, more)


def next_step(tree, field, known):
    """The pair (field, kind) of another field that decides next, or None if there is none."""
    for step, mark in enumerate(known):
        if mark is None and step != field:
            kind = deciding_kind(tree, field, known, step)
            if kind is not None and is_ranked(kind):
                return (step, kind)
    return None


def word_of_tree(tree, field, fields):
    """The word whose tree describes the same function as the tree of the field, or None."""
    word = ()
    known = nothing_known(fields)
    kind = deciding_kind(tree, field, known, field)
    while kind is None:
        step = next_step(tree, field, known)
        if step is None:
            return None
        word = word + (step,)
        # The later steps of a word are asked only where all earlier ones have the sign 0.
        known = narrowed(known, step[0], 0)
        kind = deciding_kind(tree, field, known, field)
    return word + ((field, kind),)


def beginning(word, field):
    """The word up to and including the field, or None if the field does not occur in it."""
    for at, step in enumerate(word):
        if step[0] == field:
            return word[:at + 1]
    return None


def stand_together(first, second):
    """True if the two words are the same up to each field that occurs in both."""
    for field, _ in first:
        other = beginning(second, field)
        if other is not None and other != beginning(first, field):
            return False
    return True


def check_words(words):
    """Raise WordsClash for the first two fields whose words do not stand together."""
    for first, word in enumerate(words):
        for second in range(first + 1, len(words)):
            other = words[second]
            if word is not None and other is not None and not stand_together(word, other):
                raise WordsClash(first, second)


def forest_of_words(fields, words):
    """The forest whose fields have the paths and kinds which the words say."""
    check_words(words)
    parents = [None] * fields
    kinds = ["up"] * fields
    for word in [word for word in words if word is not None]:
        above = None
        for field, kind in word:
            parents[field] = above
            kinds[field] = kind
            above = field
    return Forest(parents, kinds)
