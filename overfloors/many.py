"""Many layers: what they have in common, or the bar that keeps them apart."""

from math import lcm

from overfloors.errors import Apart, NoSuch, TooMany
from overfloors.lattices import Lattice, Table, common_rows, joint_rows, rows_by
from overfloors.lines import split
from overfloors.meshes import barred_threes, meshes_of, pair_cells
from overfloors.points import Form, Point, value_at
from overfloors.ratios import Ratio, bezout, is_int, lcm_of, ratio_of

MOST = 8


class Bar:
    """A proof that two or three layers have no common point: forms that do not add up there."""

    def __init__(self, numbers, forms, value):
        self.numbers = list(numbers)
        self.forms = list(forms)
        self.value = ratio_of(value)


def check_many(layers):
    """Raises an error unless there are one to eight layers."""
    if len(layers) == 0:
        raise NoSuch(0)
    if len(layers) > MOST:
        raise TooMany(MOST)


def form_apart(one, other):
    """A form that is whole on the lattices of two layers, but not at the difference of their points.

    The bottom of its value there is the order of the difference modulo the sum of the lattices.
    """
    joint = one.lattice + other.lattice
    first, second = joint.steps(one.point - other.point)
    bottom = lcm_of(first.bottom, second.bottom)
    # The steps over their common bottom have no common divisor with it, neither has their
    # greatest common divisor, which the forms of the steps give when taken s and t times.
    _, s, t = bezout(first.top * (bottom // first.bottom), second.top * (bottom // second.bottom))
    along, upward = joint.tests()
    return along * s + upward * t


def value_of(forms, layers):
    """The sum of the values of forms at the points of their layers, modulo 1."""
    total = Ratio(0)
    for form, layer in zip(forms, layers):
        total = total + value_at(form, layer.point)
    return total % 1


def choices(many, size):
    """All lists of so many of the first integers from 0 on, each in ascending order, the least list first."""
    found = [[]]
    for _ in range(size):
        found = [[*chosen, number] for chosen in found for number in range(chosen[-1] + 1 if chosen else 0, many)]
    return found


def mask_of(numbers):
    """An integer that tells a choice of indexes by its bits."""
    return sum([1 << number for number in numbers])


def barred_choices(layers):
    """The twos, then the threes of which each two meet, of indexes of layers without a common point, each in order."""
    meshes = meshes_of(layers)
    pairs = pair_cells(meshes)
    twos = [numbers for numbers in choices(len(layers), 2) if mask_of(numbers) not in pairs]
    threes = barred_threes(meshes, pairs)
    if len(threes) == 0:
        return twos
    return twos + [numbers for numbers in choices(len(layers), 3) if mask_of(numbers) in threes]


def forms_of(barred):
    """The forms of a bar of two layers that do not meet, or of three of which the first two do."""
    if len(barred) == 2:
        form = form_apart(barred[0], barred[1])
        return [form, -form]
    one, other, third = barred
    form = form_apart(one & other, third)
    # What is whole on a common part is the sum of what is whole on each lattice.
    parts = split(Point(form.x, form.y), one.lattice.dual(), other.lattice.dual())
    forms = [Form(part.x, part.y) for part in parts]
    return [*forms, -form]


def first_bar(layers):
    """A bar of the first two layers without a common point, else of the first three, else None."""
    found = barred_choices(layers)
    if len(found) == 0:
        return None
    barred = [layers[number] for number in found[0]]
    forms = forms_of(barred)
    return Bar(found[0], forms, value_of(forms, barred))


def gather(layers):
    """The common layer of some layers."""
    check_many(layers)
    common = layers[0]
    for layer in layers[1:]:
        common = common & layer
        if common is None:
            raise Apart(first_bar(layers))
    return common


def bar_of(layers):
    """A bar of some layers, or None if they have a common point."""
    check_many(layers)
    return first_bar(layers)


def are_ascending(numbers, end):
    """True for two or three integers from 0 to less than the end, each above the one before."""
    if len(numbers) < 2 or len(numbers) > 3:
        return False
    least = 0
    for number in numbers:
        if not is_int(number) or number < least or number >= end:
            return False
        least = number + 1
    return True


def bars(bar, layers):
    """True if this is a bar of the layers."""
    if not are_ascending(bar.numbers, len(layers)) or len(bar.forms) != len(bar.numbers):
        return False
    barred = [layers[number] for number in bar.numbers]
    total = Form(0, 0)
    for form, layer in zip(bar.forms, barred):
        if Point(form.x, form.y) not in layer.lattice.dual():
            return False
        total = total + form
    value = value_of(bar.forms, barred)
    return total == Form(0, 0) and bool(value) and bar.value == value


def fullest(layers):
    """The longest choice of layers with a common point, of several the first one, and their common layer."""
    check_many(layers)
    barred = [mask_of(numbers) for numbers in barred_choices(layers)]
    for size in range(len(layers), 0, -1):
        for chosen in choices(len(layers), size):
            mask = mask_of(chosen)
            if not any([mask & told == told for told in barred]):
                return chosen, gather([layers[number] for number in chosen])


def woven(one, two, three):
    """The lattices that come from three by repeated common parts and sums, each once."""
    tables = [lattice.table for lattice in (one, two, three)]
    across = lcm(tables[0].across, tables[1].across, tables[2].across)
    upward = lcm(tables[0].upward, tables[1].upward, tables[2].upward)
    rows = [rows_by(table, across, upward) for table in tables]
    found = []
    for told in woven_rows(rows):
        if told not in found:
            found.append(told)
    return [Lattice(Table(a, b, d, across, upward)) for a, b, d in found]


def woven_rows(rows):
    """The same for lattices that are told by rows (a, b, d), some of them more than once."""
    triples = [(0, 1, 2), (1, 2, 0), (2, 0, 1)]
    commons = [common_rows(rows[first], rows[second]) for first, second, _ in triples]
    joints = [joint_rows(rows[first], rows[second]) for first, second, _ in triples]
    low = [joint_rows(commons[first], commons[second]) for first, second, _ in triples]
    high = [common_rows(joints[first], joints[second]) for first, second, _ in triples]
    inner = [common_rows(rows[third], joint) for (_, _, third), joint in zip(triples, joints)]
    outer = [joint_rows(rows[third], common) for (_, _, third), common in zip(triples, commons)]
    between = [joint_rows(narrow, common) for narrow, common in zip(inner, commons)]
    ends = [common_rows(commons[0], rows[2]), joint_rows(joints[0], rows[2])]
    ends = [*ends, joint_rows(low[0], commons[2]), common_rows(high[0], joints[2])]
    return [*rows, *commons, *joints, *low, *high, *inner, *outer, *between, *ends]
