"""Exact numbers: ratios of integers of any size."""

from math import gcd, isqrt, lcm

from overfloors.errors import BadNumber, NoSuch
from overfloors.order import ranked


def is_int(value):
    """True for integers; True and False are none."""
    return isinstance(value, int) and not isinstance(value, bool)


def is_number(value):
    """True for integers and Ratios."""
    return isinstance(value, Ratio) or is_int(value)


def is_count(value):
    """True for integers from 1 on."""
    return is_int(value) and value >= 1


def ratio_of(number):
    """A number as a Ratio."""
    if isinstance(number, Ratio):
        return number
    if is_int(number):
        return Ratio(number)
    raise BadNumber(number)


def floor_quotient(one, other):
    """The floor of the exact quotient of two numbers."""
    first, second = ratio_of(one), ratio_of(other)
    if second.top == 0:
        raise BadNumber(other)
    return (first.top * second.bottom) // (first.bottom * second.top)


def remainder_of(one, other):
    """What is left of a number less the multiple of another one by the floor of their quotient."""
    first, second = ratio_of(one), ratio_of(other)
    if second.top == 0:
        raise BadNumber(other)
    return Ratio((first.top * second.bottom) % (first.bottom * second.top), first.bottom * second.bottom)


def power_of(base, number, unit):
    """The product of so many equal factors, an integer from 0 on; of none the unit."""
    found = unit
    factor = base
    left = number
    while left > 0:
        if left & 1:
            found = found * factor
        left = left >> 1
        # The last square would be as long as the whole result and is not needed.
        if left > 0:
            factor = factor * factor
    return found


def check_parts(top, bottom):
    """Raises an error unless two values are the top and the bottom of a fraction."""
    if not is_int(top):
        raise BadNumber(top)
    if not is_int(bottom):
        raise BadNumber(bottom)
    if bottom == 0:
        raise BadNumber(0)


class Ratio:
    """A fraction in lowest terms with a bottom above 0.

    Most of the time that the package takes is spent here, so the methods ask for Ratios first, and
    for other numbers only where there is none.
    """

    def __init__(self, top, bottom=1):
        if type(top) is not int or type(bottom) is not int or bottom == 0:
            check_parts(top, bottom)
        if bottom != 1:
            common = gcd(top, bottom) if bottom > 0 else -gcd(top, bottom)
            if common != 1:
                top = top // common
                bottom = bottom // common
        self.top = top
        self.bottom = bottom

    def over(self, number):
        """The exact quotient by a number."""
        divisor = number if isinstance(number, Ratio) else ratio_of(number)
        if divisor.top == 0:
            raise BadNumber(number)
        return Ratio(self.top * divisor.bottom, self.bottom * divisor.top)

    def floor(self):
        """The greatest integer that is not above the number."""
        return self.top // self.bottom

    def ceiling(self):
        """The least integer that is not below the number."""
        return -(-self.top // self.bottom)

    def whole(self):
        """True if the number is an integer."""
        return self.bottom == 1

    def sign(self):
        """-1, 0 or 1."""
        if self.top < 0:
            return -1
        return 1 if self.top > 0 else 0

    def __str__(self):
        if self.bottom == 1:
            return str(self.top)
        return f"{self.top}/{self.bottom}"

    def __bool__(self):
        return bool(self.top != 0)

    def __neg__(self):
        return Ratio(-self.top, self.bottom)

    def __abs__(self):
        return Ratio(abs(self.top), self.bottom)

    def __eq__(self, other):
        if isinstance(other, Ratio):
            return self.top == other.top and self.bottom == other.bottom
        return is_int(other) and self.bottom == 1 and self.top == other

    def __lt__(self, other):
        if isinstance(other, Ratio):
            return self.top * other.bottom < other.top * self.bottom
        if is_int(other):
            return self.top < other * self.bottom
        return NotImplemented

    def __le__(self, other):
        if isinstance(other, Ratio):
            return self.top * other.bottom <= other.top * self.bottom
        if is_int(other):
            return self.top <= other * self.bottom
        return NotImplemented

    def __gt__(self, other):
        if isinstance(other, Ratio):
            return self.top * other.bottom > other.top * self.bottom
        if is_int(other):
            return self.top > other * self.bottom
        return NotImplemented

    def __ge__(self, other):
        if isinstance(other, Ratio):
            return self.top * other.bottom >= other.top * self.bottom
        if is_int(other):
            return self.top >= other * self.bottom
        return NotImplemented

    def __add__(self, other):
        if isinstance(other, Ratio):
            return Ratio(self.top * other.bottom + other.top * self.bottom, self.bottom * other.bottom)
        if is_int(other):
            return Ratio(self.top + other * self.bottom, self.bottom)
        return NotImplemented

    def __radd__(self, other):
        if is_int(other):
            return Ratio(self.top + other * self.bottom, self.bottom)
        return NotImplemented

    def __sub__(self, other):
        if isinstance(other, Ratio):
            return Ratio(self.top * other.bottom - other.top * self.bottom, self.bottom * other.bottom)
        if is_int(other):
            return Ratio(self.top - other * self.bottom, self.bottom)
        return NotImplemented

    def __rsub__(self, other):
        if is_int(other):
            return Ratio(other * self.bottom - self.top, self.bottom)
        return NotImplemented

    def __mul__(self, other):
        if isinstance(other, Ratio):
            return Ratio(self.top * other.top, self.bottom * other.bottom)
        if is_int(other):
            return Ratio(self.top * other, self.bottom)
        return NotImplemented

    def __rmul__(self, other):
        if is_int(other):
            return Ratio(self.top * other, self.bottom)
        return NotImplemented

    def __floordiv__(self, other):
        if not is_number(other):
            return NotImplemented
        return floor_quotient(self, other)

    def __rfloordiv__(self, other):
        if not is_number(other):
            return NotImplemented
        return floor_quotient(other, self)

    def __mod__(self, other):
        if not is_number(other):
            return NotImplemented
        return remainder_of(self, other)

    def __rmod__(self, other):
        if not is_number(other):
            return NotImplemented
        return remainder_of(other, self)

    def __pow__(self, other):
        if not is_int(other) or other < 0:
            return NotImplemented
        return Ratio(power_of(self.top, other, 1), power_of(self.bottom, other, 1))


def gcd_of(first, second):
    """The greatest common divisor of two integers; 0 if both are 0."""
    return gcd(first, second)


def lcm_of(first, second):
    """The least common multiple of two integers; 0 if one of them is 0."""
    return lcm(first, second)


def divisors_of(number):
    """The divisors of an integer from 1 on, the least one first."""
    low = [divisor for divisor in range(1, isqrt(number) + 1) if number % divisor == 0]
    high = [number // divisor for divisor in low[::-1] if divisor * divisor != number]
    return low + high


def bezout(first, second):
    """(g, s, t) with s * first + t * second = g, the greatest common divisor."""
    upper, lower = first, second
    s, following = 1, 0
    while lower != 0:
        many = upper // lower
        upper, lower = lower, upper - many * lower
        s, following = following, s - many * following
    if upper < 0:
        upper, s = -upper, -s
    t = (upper - s * first) // second if second != 0 else 0
    return upper, s, t


def order_keys(ratios):
    """Integers in the order of some Ratios, at least one: equal ones for equal Ratios."""
    # Unlike Ratios are farther apart than 1 over the product of two such powers of two as these.
    bits = 2 * max([int(ratio.bottom.bit_length()) for ratio in ratios])
    return [(ratio.top << bits) // ratio.bottom for ratio in ratios]


def ascending(numbers):
    """The numbers as Ratios, the least one first."""
    ratios = [ratio_of(number) for number in numbers]
    if len(ratios) < 2:
        return ratios
    return [ratios[index] for index in ranked([(key,) for key in order_keys(ratios)])]


def least(numbers):
    """The least one of some numbers."""
    if len(numbers) == 0:
        raise NoSuch(0)
    return ascending(numbers)[0]


def greatest(numbers):
    """The greatest one of some numbers."""
    if len(numbers) == 0:
        raise NoSuch(0)
    return ascending(numbers)[-1]
