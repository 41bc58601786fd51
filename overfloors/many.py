"""Many layers: what they have in common, or the bar that keeps them apart."""

from math import gcd, lcm

from overfloors.errors import Apart, NoSuch, TooMany
from overfloors.layers import meet
from overfloors.lines import split
from overfloors.points import Form, Point, value_at
from overfloors.ratios import Ratio, bezout, is_int, lcm_of, ratio_of

MOST = 8


class Bar:
    """A proof that two or three layers have no common point: forms that do not add up there."""

    def __init__(self, numbers, forms, value):
        self.numbers = list(numbers)
        self.forms = list(forms)
        self.value = ratio_of(value)


def check_many(layers):
    """Raises an error unless there are one to eight layers."""
    if len(layers) == 0:
        raise NoSuch(0)
    if len(layers) > MOST:
        raise TooMany(MOST)


def form_apart(one, other):
    """A form that is whole on the lattices of two layers, but not at the difference of their points.

    The bottom of its value there is the order of the difference modulo the sum of the lattices.
    """
    joint = one.lattice + other.lattice
    first, second = joint.steps(one.point - other.point)
    bottom = lcm_of(first.bottom, second.bottom)
    # The steps over their common bottom have no common divisor with it, neither has their
    # greatest common divisor, which the forms of the steps give when taken s and t times.
    _, s, t = bezout(first.top * (bottom // first.bottom), second.top * (bottom // second.bottom))
    along, upward = joint.tests()
    return along * s + upward * t


def value_of(forms, layers):
    """The sum of the values of forms at the points of their layers, modulo 1."""
    total = Ratio(0)
    for form, layer in zip(forms, layers):
        total = total + value_at(form, layer.point)
    return total % 1


def choices(many, size):
    """All lists of so many of the first integers from 0 on, each in ascending order, the least list first."""
    found = [[]]
    for _ in range(size):
        found = [[*chosen, number] for chosen in found for number in range(chosen[-1] + 1 if chosen else 0, many)]
    return found


def pairs_of(layers):
    """A dict from the twos of indexes of layers, the first one below the second one, to their common layer or None."""
    return {(first, second): layers[first] & layers[second] for first, second in choices(len(layers), 2)}


def apart(layers, pairs):
    """The twos, and the threes of which the first two meet, of indexes of layers without a common point."""
    found = []
    for first, second in choices(len(layers), 2):
        common = pairs[first, second]
        if common is None:
            found.append([first, second])
            continue
        thirds = [third for third in range(second + 1, len(layers)) if not meet(common, layers[third])]
        found.extend([[first, second, third] for third in thirds])
    return found


def mask_of(numbers):
    """An integer that tells a choice of indexes by its bits."""
    return sum([1 << number for number in numbers])


def common_cells(layers):
    """The cells of what the layers of each mask have in common, None for nothing and for the mask 0.

    The dual of a common part is the sum of the duals, and its cell is told by areas of two points,
    each of one dual. So the cell of a common part is the least common multiple of those of all twos.
    """
    pairs = pairs_of(layers)
    barred = {mask_of(numbers): True for numbers in apart(layers, pairs)}
    cells = [None for _ in range(1 << len(layers))]
    for index, layer in enumerate(layers):
        cells[1 << index] = layer.lattice.cell
    twos = {mask_of(numbers): pairs[numbers] for numbers in pairs}
    for mask in twos:
        cells[mask] = None if twos[mask] is None else twos[mask].lattice.cell
    bits = [1 << index for index in range(len(layers))]
    for mask in range(1, 1 << len(layers)):
        low, high = mask & -mask, 1 << (mask.bit_length() - 1)
        if low + high >= mask or mask in barred or any([cells[mask ^ bit] is None for bit in bits if mask & bit]):
            continue
        parts = (cells[mask ^ low], cells[mask ^ high], cells[low | high])
        top = lcm(parts[0].top, parts[1].top, parts[2].top)
        cells[mask] = Ratio(top, gcd(parts[0].bottom, parts[1].bottom, parts[2].bottom))
    return cells


def forms_of(barred):
    """The forms of a bar of two layers that do not meet, or of three of which the first two do."""
    if len(barred) == 2:
        form = form_apart(barred[0], barred[1])
        return [form, -form]
    one, other, third = barred
    form = form_apart(one & other, third)
    # What is whole on a common part is the sum of what is whole on each lattice.
    parts = split(Point(form.x, form.y), one.lattice.dual(), other.lattice.dual())
    forms = [Form(part.x, part.y) for part in parts]
    return [*forms, -form]


def first_bar(layers):
    """A bar of the first two layers without a common point, else of the first three, else None."""
    found = apart(layers, pairs_of(layers))
    if len(found) == 0:
        return None
    twos = [told for told in found if len(told) == 2]
    numbers = (twos + found)[0]
    barred = [layers[number] for number in numbers]
    forms = forms_of(barred)
    return Bar(numbers, forms, value_of(forms, barred))


def gather(layers):
    """The common layer of some layers."""
    check_many(layers)
    common = layers[0]
    for layer in layers[1:]:
        common = common & layer
        if common is None:
            raise Apart(first_bar(layers))
    return common


def bar_of(layers):
    """A bar of some layers, or None if they have a common point."""
    check_many(layers)
    return first_bar(layers)


def are_ascending(numbers, end):
    """True for two or three integers from 0 to less than the end, each above the one before."""
    if len(numbers) < 2 or len(numbers) > 3:
        return False
    least = 0
    for number in numbers:
        if not is_int(number) or number < least or number >= end:
            return False
        least = number + 1
    return True


def bars(bar, layers):
    """True if this is a bar of the layers."""
    if not are_ascending(bar.numbers, len(layers)) or len(bar.forms) != len(bar.numbers):
        return False
    barred = [layers[number] for number in bar.numbers]
    total = Form(0, 0)
    for form, layer in zip(bar.forms, barred):
        if Point(form.x, form.y) not in layer.lattice.dual():
            return False
        total = total + form
    value = value_of(bar.forms, barred)
    return total == Form(0, 0) and bool(value) and bar.value == value


def fullest(layers):
    """The longest choice of layers with a common point, of several the first one, and their common layer."""
    check_many(layers)
    barred = apart(layers, pairs_of(layers))
    for size in range(len(layers), 0, -1):
        for chosen in choices(len(layers), size):
            if not any([all([number in chosen for number in numbers]) for numbers in barred]):
                return chosen, gather([layers[number] for number in chosen])


def woven(one, two, three):
    """The lattices that come from three by repeated common parts and sums, each once."""
    pairs = ((one, two, three), (two, three, one), (three, one, two))
    commons = [first & second for first, second, third in pairs]
    joints = [first + second for first, second, third in pairs]
    low = [commons[0] + commons[1], commons[1] + commons[2], commons[2] + commons[0]]
    high = [joints[0] & joints[1], joints[1] & joints[2], joints[2] & joints[0]]
    inner = [third & joint for (first, second, third), joint in zip(pairs, joints)]
    outer = [third + common for (first, second, third), common in zip(pairs, commons)]
    lowest, highest = low[0] + commons[2], high[0] & joints[2]
    between = [narrow + common for narrow, common in zip(inner, commons)]
    ends = [commons[0] & three, joints[0] + three, lowest, highest]
    found = []
    for lattice in [one, two, three, *commons, *joints, *low, *high, *inner, *outer, *between, *ends]:
        if lattice not in found:
            found.append(lattice)
    return found
