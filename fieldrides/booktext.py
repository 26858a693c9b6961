"""The written form of books."""

from fieldrides.books import Book
from fieldrides.errors import BadText
from fieldrides.treetext import tree_in, write_tree

MOST_LINES = 6


def write_book(book):
    """The written form of the book."""
    return "\n".join([f"{field}: {write_tree(tree)}" for field, tree in enumerate(book.trees)])


def line_tree(field, line):
    """The tree in the line of a field, or None if the line does not have the form."""
    head = f"{field}: "
    if field >= MOST_LINES or not line.startswith(head):
        return None
    return tree_in(line[len(head):])


def read_book(text):
    """The book of which the text is the written form."""
    trees = []
    for field, line in enumerate(text.split("\n")):
        tree = line_tree(field, line)
        if tree is None:
            raise BadText(field + 1)
        trees.append(tree)
    return Book(trees)
