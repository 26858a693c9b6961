"""Which records of a row are kept along the paths of a forest, and the end that they give (point 37)."""


def parents_first(forest):
    """The list of all fields, each behind the fields above it."""
    depths = sorted([(len(forest.path(field)), field) for field in range(forest.fields)])
    return [field for _, field in depths]


def kept_by(kind, field, records, indices):
    """Those of the indices whose records are kept at a field of this kind."""
    if kind == "first":
        return indices[:1]
    if kind == "last":
        return indices[-1:]
    values = [records[index][field] for index in indices]
    best = max(values) if kind == "up" else min(values)
    return [index for index in indices if records[index][field] == best]


def kept_along(forest, records):
    """A dict from each field to the ascending list of the indices of the records kept along its path.

    The key None stands for the way without a field, along which all records are kept.
    """
    kept = {None: list(range(len(records)))}
    for field in parents_first(forest):
        kept[field] = kept_by(forest.kinds[field], field, records, kept[forest.parents[field]])
    return kept


def end_along(forest, records):
    """The end of a row of at least one record."""
    kept = kept_along(forest, records)
    return tuple([records[kept[field][0]][field] for field in range(forest.fields)])
