"""Expressions of sets of places, and what they should be: by their formal meaning, and point by point."""

import itertools

from overfloors.places import Places
from drawn import places

SIGNS = "|&-^"


def done(sign, one, other):
    """What an operator makes of two answers."""
    if sign == "|":
        return one or other
    if sign == "&":
        return one and other
    return one and not other if sign == "-" else one != other


def drawn(draw, layers, depth):
    """An expression: a list of indexes of layers, or a triple (sign, expression, expression)."""
    if depth == 0 or draw.random.random() < 0.2:
        return draw.random.choices(range(len(layers)), k=draw.random.randint(0, 2))
    return draw.random.choice(SIGNS), drawn(draw, layers, depth - 1), drawn(draw, layers, depth - 1)


def holds(told, pattern):
    """Whether a point belongs that just the layers with the indexes of the pattern hold."""
    if isinstance(told, list):
        return any(index in pattern for index in told)
    return done(told[0], holds(told[1], pattern), holds(told[2], pattern))


def patterns(indexes):
    """All choices of some indexes, the empty one too."""
    return [set(one) for size in range(len(indexes) + 1) for one in itertools.combinations(indexes, size)]


def named(told):
    """The indexes of the layers that the set of an expression should tell, in order."""
    if isinstance(told, list):
        return list(dict.fromkeys(told))
    both = list(dict.fromkeys(named(told[1]) + named(told[2])))
    return [index for index in both if any(
        holds(told, pattern) != holds(told, pattern | {index}) for pattern in patterns(both)
    )]


def made(told, layers):
    """The set of an expression, by the operators."""
    if isinstance(told, list):
        return Places([layers[index] for index in told])
    one, other = made(told[1], layers), made(told[2], layers)
    if told[0] == "|":
        return one | other
    if told[0] == "&":
        return one & other
    return one - other if told[0] == "-" else one ^ other


def walked(told, layers, size):
    """The pairs (x, y) with 0 <= x, y < size that belong; the lattices hold (size, 0) and (0, size)."""
    held = [places(layer, size) for layer in layers]
    found = set()
    for x in range(size):
        for y in range(size):
            if holds(told, {index for index, points in enumerate(held) if (x, y) in points}):
                found.add((x, y))
    return found
