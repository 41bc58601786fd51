"""Stretches: where a layer meets the multiples of another one."""

from math import gcd

from overfloors.errors import BadNumber, TooMany
from overfloors.lattices import is_member
from overfloors.layers import grid_of, scales_of
from overfloors.ratios import divisors_of, is_count, lcm_of

MOST = 1000


def depth_of(one, other):
    """The least integer from 1 on whose product with the sum of both lattices lies within the first one."""
    first, second = [one.order(row) for row in other.rows()]
    return lcm_of(first, second)


def repeated(held):
    """The shortest part of a row of answers that makes the row when it is repeated."""
    lengths = divisors_of(len(held))
    return [held[:length] for length in lengths if held[:length] * (len(held) // length) == held][0]


class Stretches:
    """The multiples of the layer other, told by integers from 1 on, as they meet the layer one."""

    def __init__(self, one, other):
        depth = depth_of(one.lattice, other.lattice)
        length = lcm_of(depth, one.lattice.order(other.point))
        if length > MOST:
            raise TooMany(MOST)
        self.one = one
        self.other = other
        self.depth = depth
        self.levels = [(divisor, one.lattice + other.lattice * divisor) for divisor in divisors_of(depth)]
        tables = {divisor: lattice.table for divisor, lattice in self.levels}
        across, upward = scales_of([one, other])
        (x, y), (left, low) = [grid_of(layer, across, upward)[:2] for layer in (other, one)]
        held = [
            is_member(tables[gcd(number, depth)], x * number - left, across, y * number - low, upward)
            for number in range(1, length + 1)
        ]
        # A tuple, since the list of wins is anyone's to change.
        self.held = tuple(repeated(held))
        self.period = len(self.held)
        self.wins = [number for number in range(1, self.period + 1) if self.held[number - 1]]

    def meets(self, number):
        """True if the layer one meets number * other."""
        if not is_count(number):
            raise BadNumber(number)
        return self.held[(number - 1) % len(self.held)]

    def meeting(self, number):
        """The common layer of the layer one and of number * other, or None."""
        return self.one & self.other * number if self.meets(number) else None

    def room(self, number):
        """The cell of the lattice of the common layer, or None."""
        if not self.meets(number):
            return None
        first, second = self.one.lattice, self.other.lattice
        joint = first + second * gcd(number, self.depth)
        return (first.cell * second.cell * (number * number)).over(joint.cell)

    def first_win(self):
        """The least integer from 1 on for which both meet, or None."""
        for index, meets in enumerate(self.held):
            if meets:
                return index + 1
        return None
