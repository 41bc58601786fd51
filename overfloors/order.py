"""The order of keys: lists or tuples of numbers, of which the first unlike ones decide."""


def comes_before(one, other):
    """True if the key one stands before the key other, False also where they are equal."""
    for first, second in zip(one, other):
        if first != second:
            return first < second
    return False


def merged(left, right, keys):
    """Two rows of indexes, each in the order of its keys, as one row."""
    found = []
    at = 0
    for index in right:
        while at < len(left) and not comes_before(keys[index], keys[left[at]]):
            found.append(left[at])
            at += 1
        found.append(index)
    return found + left[at:]


def ranked(keys):
    """The indexes of the keys in ascending order of the keys, of equal ones the first one first."""
    if len(keys) == 0:
        return []
    rows = [[index] for index in range(len(keys))]
    while len(rows) > 1:
        joined = [merged(rows[at], rows[at + 1], keys) for at in range(0, len(rows) - 1, 2)]
        rows = joined + rows[len(joined) * 2:]
    return rows[0]
