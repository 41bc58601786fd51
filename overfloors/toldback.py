"""Lattices that are told by what they have in common with others, and by their index."""

from math import gcd

from overfloors.errors import BadNumber, NotWithin, TooFar, TooMany
from overfloors.lattices import Lattice, Table
from overfloors.lines import lines_of, part_apart
from overfloors.ratios import divisors_of, is_count

MOST = 1000
FARTHEST = 1000000


def check_sum(number):
    """Raises an error if the sum of the divisors of an integer from 1 on is too great."""
    # The number is one of its own divisors, so a great one need not be looked at.
    if number > MOST or sum(divisors_of(number)) > MOST:
        raise TooMany(MOST)


def check_index(number):
    """Raises an error unless a value is an index of which all lattices are listed."""
    if not is_count(number):
        raise BadNumber(number)
    check_sum(number)


def tables_of(number):
    """The tables (a, b, d) of the lattices of this index in that of (1, 0) and (0, 1)."""
    found = []
    for width in divisors_of(number):
        height = number // width
        found.extend([(width, lean, height) for lean in range(height)])
    return found


def made_of(table, number, tables):
    """The lattices that tables tell when (1, 0) and (0, 1) stand for the rows of a table over a number."""
    across, upward = table.across * number, table.upward * number
    found = []
    for a, b, d in tables:
        height = table.d * d
        found.append(Lattice(Table(table.a * a, (table.b * a + table.d * b) % height, height, across, upward)))
    return found


def sublattices(lattice, number):
    """All lattices within a lattice in which they have the index number."""
    check_index(number)
    return made_of(lattice.table, 1, tables_of(number))


def superlattices(lattice, number):
    """All lattices around a lattice that has the index number in them."""
    check_index(number)
    return made_of(lattice.table, number, tables_of(number))


def lines_within(lattice, common):
    """Common lines of a lattice and of one that must lie within it."""
    if not common <= lattice:
        raise NotWithin()
    return lines_of(lattice, common)


def is_in(table, x, y):
    """True if a whole point is in the lattice of a table of integers."""
    a, b, d = table
    return x % a == 0 and (y - x // a * b) % d == 0


def members_apart(common, lines, number):
    """The points that no partner may have, each taken number times, in steps of the lattice common.

    They are those members of the lattice on its second line whose order modulo the lattice
    common divides the number.
    """
    along, upward = common.steps(lines.v * lines.s)
    parts = [number // order for order in divisors_of(gcd(lines.s.top, number)) if order > 1]
    return [(along.top * part, upward.top * part) for part in parts]


def partners_by(common, lines, number):
    """The partners of the lattice of the lines, which has the lattice common within it."""
    # A common divisor of the number and of both Ratios brings all points of one prime order
    # modulo the lattice common into the lattice of the lines, some of which any partner has.
    if gcd(lines.r.top, number) > 1:
        return []
    barred = members_apart(common, lines, number)
    tables = [table for table in tables_of(number) if not any([is_in(table, x, y) for x, y in barred])]
    return made_of(common.table, number, tables)


def partners(lattice, common, number):
    """All lattices in which the lattice common has the index number and which share just it with the lattice."""
    lines = lines_within(lattice, common)
    check_index(number)
    return partners_by(common, lines, number)


def count_partners(lattice, common, number):
    """The number of the partners."""
    lines = lines_within(lattice, common)
    if not is_count(number):
        raise BadNumber(number)
    if number > FARTHEST:
        raise TooFar(number)
    if gcd(lines.r.top, number) > 1:
        return 0
    free = part_apart(number, lines.s.top)
    return number // free * sum(divisors_of(free))


def complements(lattice, common, joint):
    """All lattices that share just the lattice common with the lattice and make the lattice joint with it."""
    lines = lines_within(lattice, common)
    number = joint.index_of(lattice)
    check_sum(number)
    return [found for found in partners_by(common, lines, number) if found <= joint]
