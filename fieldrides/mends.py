"""Mends: the forest that keeps as many fields of a book as any."""

from fieldrides.words import forest_of_words, stand_together, word_of_tree


def book_words(book):
    """For each field the word of its tree, or None."""
    return tuple([word_of_tree(tree, field, book.fields) for field, tree in enumerate(book.trees)])


def stands_with_all(words, chosen, word):
    """True if the word stands together with the words of the chosen fields."""
    return not [field for field in chosen if not stand_together(words[field], word)]


def standing_choices(words):
    """The list of all ascending tuples of fields that have words of which each two stand together."""
    choices = [()]
    for field, word in enumerate(words):
        if word is not None:
            choices = choices + [chosen + (field,) for chosen in choices if stands_with_all(words, chosen, word)]
    return choices


def mend(book):
    """The forest that merges like the book in as many fields as any forest, and the tuple of these fields."""
    words = book_words(book)
    # The longest choice comes first, and of several such the least one.
    kept = sorted([(-len(chosen), chosen) for chosen in standing_choices(words)])[0][1]
    return forest_of_words(book.fields, [word if field in kept else None for field, word in enumerate(words)]), kept
