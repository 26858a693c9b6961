"""The written form of forests."""

from fieldrides.errors import BadText
from fieldrides.kinds import is_ranked
from fieldrides.words import forest_of_words

MOST_LINES = 16
KIND_SIGNS = {"up": "+", "down": "-", "first": "<", "last": ">"}
SIGN_KINDS = {"+": "up", "-": "down", "<": "first", ">": "last"}


def write_forest(forest):
    """The written form of the forest."""
    lines = []
    for field in range(forest.fields):
        steps = " ".join([f"{KIND_SIGNS[kind]}{step}" for step, kind in forest.word(field)])
        lines.append(f"{field}: {steps}")
    return "\n".join(lines)


def word_in(text, names):
    """The steps written in the text as a word, or None if one has another form; field f is written names[f]."""
    word = []
    for step in text.split(" "):
        # Comparing with the names leaves out numbers with leading zeros and fields without a line.
        if step[:1] not in SIGN_KINDS or step[1:] not in names:
            return None
        word.append((names.index(step[1:]), SIGN_KINDS[step[0]]))
    return tuple(word)


def is_word_of(word, field):
    """True if these steps are a word for the field."""
    fields = [step for step, _ in word]
    early = [kind for _, kind in word[:-1] if not is_ranked(kind)]
    return fields[-1] == field and len(set(fields)) == len(fields) and not early


def line_word(field, line, names):
    """The word in the line of a field, or None if the line does not have the form."""
    head = f"{field}: "
    if field >= MOST_LINES or not line.startswith(head):
        return None
    word = word_in(line[len(head):], names)
    return word if word is not None and is_word_of(word, field) else None


def read_forest(text):
    """The forest of which the text is the written form."""
    lines = text.split("\n")
    names = [str(field) for field in range(len(lines))]
    words = []
    for field, line in enumerate(lines):
        word = line_word(field, line, names)
        if word is None:
            raise BadText(field + 1)
        words.append(word)
    return forest_of_words(len(words), words)
