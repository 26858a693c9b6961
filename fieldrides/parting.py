"""Records that part: three records for which the order of merging matters."""

from fieldrides.tools import with_value


def parts(book, x, y, z):
    """True if merging x with y first and merging y with z first end unlike."""
    return book(book(x, y), z) != book(x, book(y, z))


def first_parting(book, triples):
    """The first of the triples that parts, or None."""
    for x, y, z in triples:
        if parts(book, x, y, z):
            return (x, y, z)
    return None


def grid(fields, places):
    """The records with the values 0, 1 and 2 in these places and 0 elsewhere."""
    records = [(0,) * fields]
    for place in places:
        records = [with_value(record, place, value) for record in records for value in (0, 1, 2)]
    return records


def parting_among(book, places):
    """Three records with the values 0, 1 and 2 in these places and 0 elsewhere that part, or None."""
    return parting_of(book, grid(book.fields, places))


def parting_of(book, records):
    """Three of the records that part, or None; the merges of each two of them must be among them."""
    # Then a table of all merges of two is enough.
    merged = {}
    for x in records:
        for y in records:
            merged[x, y] = book(x, y)
    for x in records:
        for y in records:
            for z in records:
                if merged[merged[x, y], z] != merged[x, merged[y, z]]:
                    return (x, y, z)
    return None


def as_ranks(triple):
    """The three records with the values of each field replaced by their ranks from 0 on."""
    # A merge sees only the order of values, so this changes none.
    ranked = ([], [], [])
    for values in zip(triple[0], triple[1], triple[2]):
        order = sorted(set(values))
        for record, value in zip(ranked, values):
            record.append(order.index(value))
    return tuple([tuple(record) for record in ranked])
