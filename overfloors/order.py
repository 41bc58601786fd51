"""The order of rows of integers, of which the first unlike ones decide."""

FEW = 8


def row_keys(rows):
    """An integer for each of some rows of integers, all of one length, in the order of the rows."""
    keys = [row[0] for row in rows]
    for at in range(1, len(rows[0])):
        span = 2 * max([int(abs(row[at])) for row in rows]) + 1
        keys = [key * span + row[at] for key, row in zip(keys, rows)]
    return keys


def inserted(rows):
    """The indexes of a few tuples in ascending order, put in one by one."""
    order = []
    for index, row in enumerate(rows):
        at = index
        while at > 0 and row < rows[order[at - 1]]:
            at = at - 1
        order.insert(at, index)
    return order


def ranked(rows):
    """The indexes of tuples of integers, all of one length, in ascending order, of equal ones the first one first."""
    if len(rows) <= FEW:
        return inserted(rows)
    places = {}
    for index, key in enumerate(row_keys(rows)):
        places.setdefault(key, []).append(index)
    return [index for key in sorted([int(key) for key in places]) for index in places[key]]
