"""Turns made of turns: which products of powers of some turns are own turns.

A turn is taken as its index together with its lifted direction (m, n). At a divisor of the indices
of two turns both go the same way if it divides the area of their lifted directions. A product of
powers is an own turn exactly if at each prime as many powers go the one way as the other way.
Divisors serve as well as primes, if no two of them have a common divisor, each index is a product
of them, and at each of them two turns go either the same way or opposite ways.
"""

from math import gcd, isqrt

from overfloors.errors import NotPlain
from overfloors.ratios import bezout
from overfloors.turns import extent, index_by, lifted, plain_form, whole_on


def has_square(number):
    """True if the square of an integer above 1 divides a number above 0."""
    return any([number % (root * root) == 0 for root in range(2, isqrt(number) + 1)])


def is_plain(ground):
    """True for the plain grounds of [30]."""
    number = extent((ground.a, ground.b, ground.c))
    if number % 4 == 0:
        number = number // 4
        return number % 4 in (1, 2) and not has_square(number)
    return number % 4 == 3 and not has_square(number)


def taken_out(number, divisor):
    """What is left of a number, and how often a divisor above 1 could be taken out of it."""
    many = 0
    while number % divisor == 0:
        number = number // divisor
        many += 1
    return number, many


def parts_of(numbers):
    """Integers above 1 of which all the numbers are products, no two with a common divisor."""
    found = []
    waiting = list(numbers)
    while len(waiting) > 0:
        number = waiting.pop()
        kept = []
        for part in found:
            number, _ = taken_out(number, part)
            common = gcd(number, part)
            if common == 1:
                kept.append(part)
            else:
                waiting = waiting + [part // common, common]
        if number > 1:
            kept.append(number)
        found = kept
    return found


def common_way(part, one, other):
    """The greatest divisor of a part of the indices of two turns at which both go the same way."""
    return gcd(part, one[1] * other[2] - one[2] * other[1])


def ways_at(part, turns):
    """The turns whose index has a part, cut into smaller parts where some go different ways."""
    users = [one for one in turns if one[0] % part == 0]
    cut = [part]
    for one in users[1:]:
        same = [common_way(smaller, users[0], one) for smaller in cut]
        opposite = [smaller // common for smaller, common in zip(cut, same)]
        cut = [smaller for smaller in same + opposite if smaller > 1]
    return cut


def powers_at(part, turns):
    """How often each turn has a part in its index, below 0 for those that go the opposite way to the first one."""
    found = []
    first = None
    for one in turns:
        _, many = taken_out(one[0], part)
        if many > 0 and first is None:
            first = one
        if many > 0 and common_way(part, first, one) == 1:
            many = -many
        found.append(many)
    return found


def combined(many, row, times, other):
    """The sum of two rows taken so many times."""
    return [many * first + times * second for first, second in zip(row, other)]


def gathered(rows, values):
    """A row of which the greatest common divisor of the values is the value, and rows of the value 0.

    The rows have these values, which add up with them. The sums of the rows stay the same. The
    first result is None if all values are 0.
    """
    pivot, common = None, 0
    kept = []
    for row, value in zip(rows, values):
        if value == 0:
            kept.append(row)
        elif pivot is None:
            pivot, common = row, value
        else:
            divisor, s, t = bezout(common, value)
            kept.append(combined(value // divisor, pivot, -(common // divisor), row))
            pivot, common = combined(s, pivot, t, row), divisor
    if common < 0:
        pivot = [-figure for figure in pivot]
    return pivot, kept


def head_of(row):
    """The index of the first figure that is not 0."""
    return [at for at in range(len(row)) if row[at] != 0][0]


def reduced(row, table):
    """A row less the multiples of the rows of a least table that bring it below their heads."""
    for lower in table:
        at = head_of(lower)
        row = combined(1, row, -(row[at] // lower[at]), lower)
    return row


def least_table(rows, width):
    """The least table of [30] of all sums of some rows of so many figures."""
    table = []
    for at in range(width):
        pivot, rows = gathered(rows, [row[at] for row in rows])
        if pivot is not None:
            table = [reduced(row, [pivot]) for row in table] + [pivot]
    return table


def relations_of(turns):
    """The least table of the relations of some turns."""
    width = len(turns)
    rows = [[1 if at == index else 0 for at in range(width)] for index in range(width)]
    for part in parts_of([one[0] for one in turns]):
        for smaller in ways_at(part, turns):
            powers = powers_at(smaller, turns)
            values = [sum([many * figure for many, figure in zip(powers, row)]) for row in rows]
            rows = gathered(rows, values)[1]
    return least_table(rows, width)


def turn_by(form, point):
    """The index of the turn to a point's direction, with the lifted direction (m, n)."""
    x, y = whole_on(point)
    m, n = lifted(form, x, y)
    return index_by(form, m, n), m, n


class Turning:
    """The turns of a plain ground to the directions of some points."""

    def __init__(self, ground, points):
        if not is_plain(ground):
            raise NotPlain()
        self.ground = ground
        self.points = tuple(points)
        self.turns = tuple([turn_by(plain_form(ground), point) for point in self.points])
        self.table = tuple([tuple(row) for row in relations_of(self.turns)])

    @property
    def is_free(self):
        """True if no product of powers of the turns is an own turn but that of the powers 0."""
        return len(self.table) == 0

    def relations(self):
        """The least table of all relations."""
        return list(self.table)

    def made(self, point):
        """The exponents with which the turns make the turn to a point's direction, but for an own turn, or None."""
        rows = relations_of([turn_by(plain_form(self.ground), point), *self.turns])
        if len(rows) == 0 or rows[0][0] != 1:
            return None
        exponents = [-figure for figure in rows[0][1:]]
        return tuple(reduced(exponents, self.table))
