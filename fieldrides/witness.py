"""Three records that part, found where a book goes against the forest of its rulers.

The steps are those of point 30 of the document, from the fifth on; their letters stand in the comments.
The book takes a field from the wrong one of two records. Each step gives triples of records, of which
one parts, or else two other records from which the book takes the field wrongly, and which differ in less.
"""

from fieldrides.books import mirror_book
from fieldrides.forests import first_unlike, forest_side
from fieldrides.kinds import is_ranked
from fieldrides.parting import as_ranks, first_parting
from fieldrides.tools import better, raised, signs, with_value
from fieldrides.walks import pair_of

# Unlike values begin so far apart that every small step between them finds room.
SPAN = 100


def spread_pair(row):
    """An older and a newer record with this row of signs and much room between unlike values."""
    older, newer = pair_of(row)
    return tuple([SPAN * value for value in older]), tuple([SPAN * value for value in newer])


def levelled(forest, field, older, newer):
    """Triples, and the two records made equal in each other field of kind first or last."""
    triples = []
    for other, kind in enumerate(forest.kinds):
        if other == field or is_ranked(kind) or older[other] == newer[other]:
            continue
        if kind == "first":
            changed = with_value(older, other, newer[other])
            triples.extend([(changed, older, newer), (older, changed, newer)])
            older = changed
        else:
            changed = with_value(newer, other, older[other])
            triples.extend([(older, newer, changed), (older, changed, newer)])
            newer = changed
    return triples, older, newer


def descent(forest, ruler, winner, loser, wanted):
    """Triples, and the winner with the wanted pairs (field, value) and a ruler that is a little worse."""
    triples = []
    at = winner
    for field, value in wanted:
        worse = raised(forest.kinds[ruler], at[ruler], -1)
        after = with_value(with_value(at, field, value), ruler, worse)
        triples.append((winner, at, after))
        at = after
    triples.append((winner, at, loser))
    return triples, at


def below_ruler(forest, field, winner, loser):
    """Step (a): triples, and a winner that is itself better in the field."""
    ruler = first_unlike(forest, field, winner, loser)
    if ruler == field:
        return [], winner
    kind = forest.kinds[field]
    best = winner[field] if better(kind, winner[field], loser[field]) else loser[field]
    wanted = []
    for other in forest.beneath(ruler):
        value = raised(kind, best, SPAN) if other == field else loser[other]
        if winner[other] != value:
            wanted.append((other, value))
    return descent(forest, ruler, winner, loser, wanted)


def without_gains(gains, winner, loser):
    """Step (b): triples, and a winner that is equal to the loser in the fields of the list."""
    triples = []
    for other in gains:
        after = with_value(winner, other, loser[other])
        triples.append((winner, after, loser))
        winner = after
    return triples, winner


def without_loss(book, losses, winner, loser):
    """Step (d): triples, and a winner that is equal to the loser in the first field of the list."""
    middle = loser
    for other in losses[1:]:
        middle = with_value(middle, other, winner[other])
    triples = []
    at = middle
    for other in losses[1:]:
        after = with_value(at, other, loser[other])
        triples.append((middle, at, after))
        at = after
    triples.append((winner, middle, loser))
    return triples, book(winner, middle)


def next_step(book, forest, field, winner, loser):
    """Step (b), (c) or (d), whichever comes next: triples and another winner."""
    others = [other for other in range(book.fields) if other != field]
    gains = [other for other in others if better(forest.kinds[other], winner[other], loser[other])]
    if gains:
        return without_gains(gains, winner, loser)
    losses = [other for other in others if better(forest.kinds[other], loser[other], winner[other])]
    beneath = [other for other in losses if other in forest.beneath(field)]
    if beneath:
        wanted = [(other, raised(forest.kinds[other], loser[other], 1)) for other in beneath]
        return descent(forest, field, winner, loser, wanted)
    return without_loss(book, losses, winner, loser)


def parting_ranked(book, forest, field, winner, loser):
    """Three records that part, if the field is ranked and the book wrongly takes it from the newer loser."""
    triples, winner = below_ruler(forest, field, winner, loser)
    found = first_parting(book, triples)
    while found is None:
        triples, winner = next_step(book, forest, field, winner, loser)
        found = first_parting(book, triples)
    return found


def ruled_triples(forest, field, older, newer, merged):
    """Triples of which one parts, if a field above decides the field, and the merge has it from the wrong one."""
    ruler = first_unlike(forest, field, older, newer)
    kind = forest.kinds[ruler]
    best, other = (older, newer) if better(kind, older[ruler], newer[ruler]) else (newer, older)
    joined = with_value(merged, field, best[field])
    between = with_value(joined, ruler, raised(kind, best[ruler], -1))
    return [(other, with_value(between, field, other[field]), joined), (older, newer, joined)]


def lone_triples(forest, older, newer, merged):
    """Triples of which one parts, if a field of kind first goes by its own kind, but the merge has the newer value."""
    ranked = [field for field, kind in enumerate(forest.kinds) if is_ranked(kind)]
    low = older
    for field in ranked:
        if better(forest.kinds[field], low[field], merged[field]):
            low = with_value(low, field, merged[field])
    triples = [(older, older, newer), (low, older, merged)]
    at = merged
    for field in ranked:
        after = with_value(at, field, low[field])
        triples.append((low, after, at))
        at = after
    return triples


def parting_first(book, forest, field, older, newer):
    """Three records that part, if the field has the kind first and the book takes it from the wrong record."""
    merged = book(older, newer)
    if first_unlike(forest, field, older, newer) == field:
        return first_parting(book, lone_triples(forest, older, newer, merged))
    return first_parting(book, ruled_triples(forest, field, older, newer, merged))


def parting_in(book, forest, field, older, newer):
    """Three records that part, if the field is taken from the older record by a ranked field or has the kind first."""
    if is_ranked(forest.kinds[field]):
        return parting_ranked(book, forest, field, older, newer)
    return parting_first(book, forest, field, older, newer)


def in_opposite(forest, field, row):
    """True if the records are looked for in the book that merges two records in the other order."""
    if is_ranked(forest.kinds[field]):
        return forest_side(forest, field, row) == "newer"
    return forest.kinds[field] == "last"


def parting_levelled(book, forest, field, older, newer):
    """Three records that part, if the two records are equal in each other field of kind first or last."""
    if in_opposite(forest, field, signs(older, newer)):
        x, y, z = parting_in(mirror_book(book), forest, field, newer, older)
        return (z, y, x)
    return parting_in(book, forest, field, older, newer)


def parting_records(book, forest, field, row):
    """Three records with values 0, 1 and 2 that part, if the book goes against the forest in a field at this row.

    The forest is that of the book's rulers, and if the field is of kind first or last,
    the book goes with the forest in all fields of kind up and down.
    """
    older, newer = spread_pair(row)
    triples, older, newer = levelled(forest, field, older, newer)
    found = first_parting(book, triples)
    if found is None:
        found = parting_levelled(book, forest, field, older, newer)
    return as_ranks(found)
