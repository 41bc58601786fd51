"""Least keys of tiles and of pairs of tiles, and the motions that carry one to another.

A frame of a tile is a least base of its own lattice together with a mark. Seen from a frame, the
marks are told by integers, as a text. Tiles are alike if they have one shape and one least text; the
motions that carry one to the other then take frames with the least text to such frames.
"""

from math import gcd, lcm

from overfloors.bases import all_least_rows, area_of, least_rows
from overfloors.lattices import rest_by, rows_by, with_row
from overfloors.layers import Layer
from overfloors.motions import Motion
from overfloors.points import Point, summed, taken
from overfloors.ratios import Ratio
from overfloors.tiles import rarest


def number_text(top, bottom):
    """A text of a fraction, its bottom above 0; digits up to f can be written however many they are."""
    common = gcd(top, bottom)
    return f"{top // common:x}/{bottom // common:x}"


def least_for(u, v, shape, mirrors):
    """The least bases that count: without mirrors those of one side only, which is the left one where it has any.

    They are told as pairs of the steps that lead to them from (u, v), and of their rows.
    """
    found = all_least_rows(u, v, shape)
    left = [] if mirrors else [pair for pair in found if area_of(pair[1][0], pair[1][1]) > 0]
    return left if len(left) > 0 else found


def whole_points(points, many):
    """Points as rows of integers, so many times as far."""
    told = [(point.x, point.y) for point in points]
    return [(x.top * (many // x.bottom), y.top * (many // y.bottom)) for x, y in told]


def whole_figures(times, rows, marks, start):
    """An integer, and how many of its parts each mark is from a start along the rows, by letters.

    The rows are those of a base that is taken so many times.
    """
    u, v = rows
    many = times
    for letter in marks:
        for point in marks[letter]:
            many = lcm(many, point.x.bottom, point.y.bottom)
    left, low = whole_points([start], many)[0]
    bottom = many // times * area_of(u, v)
    common, figures = abs(bottom), {}
    for letter in marks:
        steps = [(x - left, y - low) for x, y in whole_points(marks[letter], many)]
        figures[letter] = [(x * v[1] - y * v[0], u[0] * y - u[1] * x) for x, y in steps]
        for across, upward in figures[letter]:
            common = gcd(common, across, upward)
    if bottom < 0:
        common = -common
    return bottom // common, {letter: [(x // common, y // common) for x, y in figures[letter]] for letter in figures}


def changed(figures, steps, bottom):
    """Figures along a base as figures along the base that steps from it make, from 0 on and below the bottom."""
    (i, j), (m, n) = steps
    if i * n < j * m:
        i, j, m, n = -i, -j, -m, -n
    return {
        letter: [((x * n - y * m) % bottom, (y * i - x * j) % bottom) for x, y in figures[letter]] for letter in figures
    }


def text_from(figures, bottom, start):
    """The text of all marks as they are seen from one of them, told by figures from 0 on and below the bottom."""
    left, low = start
    told = []
    for letter in figures:
        # Divisions of numbers as long as these may be would take far longer than sums.
        rests = [(x - left if x >= left else x - left + bottom, y - low if y >= low else y - low + bottom)
                 for x, y in figures[letter]]
        seen = ",".join(sorted([f"{x:x}.{y:x}" for x, y in rests]))
        told.append(f"{letter}:{seen}")
    return " ".join(told)


class Frames:
    """The frames of a tile with the least text."""

    def __init__(self, base, tile, mirrors):
        self.times, u, v, self.shape = base
        bases = least_for(u, v, self.shape, mirrors)
        marks = {letter: tile.marks(letter) for letter in tile.letters()}
        rare = rarest(marks, tile.letters())
        bottom, figures = whole_figures(self.times, (u, v), marks, marks[rare][0])
        found = []
        for steps, rows in bases:
            seen = changed(figures, steps, bottom)
            for point, start in zip(marks[rare], seen[rare]):
                found.append((text_from(seen, bottom, start), rows, point))
        least = min([str(text) for text, _, _ in found])
        self.ends = tuple([(rows, point) for text, rows, point in found if text == least])
        side = "right" if not mirrors and area_of(bases[0][1][0], bases[0][1][1]) < 0 else "left"
        self.text = f"{side} {bottom:x} {least}"

    def key(self, stretch):
        """A text that tiles have in common exactly if they are alike, if asked for also by stretching."""
        part = self.shape[0] if stretch else self.times * self.times
        shape = " ".join([number_text(figure, part) for figure in self.shape])
        return f"{shape} {self.text}"


def frames_of(ground, tile, mirrors):
    """The frames of a tile with the least text."""
    return Frames(least_rows(ground, tile.lattice), tile, mirrors)


def alike_frames(ground, tile, other_ground, other, mirrors, stretch):
    """The frames of two tiles, None if these are not alike."""
    base, other_base = least_rows(ground, tile.lattice), least_rows(other_ground, other.lattice)
    part, other_part = base[0] * base[0], other_base[0] * other_base[0]
    if stretch:
        part, other_part = base[3][0], other_base[3][0]
    # Most tiles that are not alike have unlike shapes, which are told far sooner than texts.
    if any([figure * other_part != beside * part for figure, beside in zip(base[3], other_base[3])]):
        return None
    frames, others = Frames(base, tile, mirrors), Frames(other_base, other, mirrors)
    return (frames, others) if frames.text == others.text else None


def least_key(ground, tile, *, mirrors=True, stretch=False):
    """A text that is the same exactly for alike tiles."""
    return frames_of(ground, tile, mirrors).key(stretch)


def moves(frames, others, ends):
    """The tables and shifts of the motions that take the first frame of a tile to some frames of another one."""
    (u, v), start = frames.ends[0]
    times, bottom = frames.times, others.times * area_of(u, v)
    left, right, low, high = times * v[1], times * v[0], times * u[1], times * u[0]
    found = []
    for rows, point in ends:
        (x, y), (z, w) = rows
        a, b = Ratio(x * left - z * low, bottom), Ratio(z * high - x * right, bottom)
        c, d = Ratio(y * left - w * low, bottom), Ratio(w * high - y * right, bottom)
        across, upward = summed(a, start.x, b, start.y), summed(c, start.x, d, start.y)
        found.append((((a, b), (c, d)), Point(taken(point.x, across), taken(point.y, upward))))
    return found


def alike(ground, tile, other_ground, other, *, mirrors=True, stretch=False):
    """A motion that carries the one tile to the other, or None."""
    both = alike_frames(ground, tile, other_ground, other, mirrors, stretch)
    if both is None:
        return None
    frames, others = both
    table, shift = moves(frames, others, others.ends[:1])[0]
    return Motion(table, shift)


def table_text(frames, rows, others, seen):
    """The text of two rows of the other frames as they are seen along two rows of the first ones."""
    u, v = rows
    bottom = others.times * area_of(u, v)
    told = [area_of(seen[0], v), area_of(seen[1], v), area_of(u, seen[0]), area_of(u, seen[1])]
    times = frames.times if bottom > 0 else -frames.times
    return " ".join([number_text(times * area, abs(bottom)) for area in told])


def shift_text(frames, end, lattice, point):
    """The text of a point as it is seen from a frame, up to own steps of its tile and members of a lattice."""
    (u, v), start = end
    step = point - start
    table, x, y = lattice.table, step.x, step.y
    many = lcm(frames.times, table.across, table.upward, x.bottom, y.bottom)
    a, b, d = rows_by(table, many, many)
    w = x.top * (many // x.bottom), y.top * (many // y.bottom)
    bottom = many // frames.times * area_of(u, v)
    rows = (abs(bottom), 0, abs(bottom))
    for row in ((a, b), (0, d)):
        rows = with_row(rows, area_of(row, v), area_of(u, row))
    side = 1 if bottom > 0 else -1
    x, y = rest_by(rows, area_of(w, v) * side, area_of(u, w) * side)
    return f"{number_text(x, abs(bottom))} {number_text(y, abs(bottom))}"


def pair_key(ground, one, other, *, mirrors=True):
    """A text that is the same exactly for alike pairs of tiles."""
    first, second = frames_of(ground, one, mirrors), frames_of(ground, other, mirrors)
    # How the frames of both tiles lie to one another. A shift can be exchanged for one that
    # differs by an own step of either tile; it is looked at only where the tables are the least.
    told = [(table_text(first, end[0], second, there[0]), end, there) for end in first.ends for there in second.ends]
    least = min([str(text) for text, _, _ in told])
    shifts = [shift_text(first, end, other.lattice, there[1]) for text, end, there in told if text == least]
    return f"{first.key(False)} {second.key(False)} {least} {min([str(text) for text in shifts])}"


def in_both(found, lattice, others, other_lattice):
    """The motions that two lists of tables and shifts have in common, if shifts differ by members of the lattices."""
    both = []
    for table, shift in found:
        for other_table, other_shift in others:
            if table == other_table:
                common = Layer(shift, lattice) & Layer(other_shift, other_lattice)
                if common is not None:
                    both.append(Motion(table, common.point))
    return both


def alike_pairs(ground, one, other, other_ground, third, fourth, *, mirrors=True):
    """A motion that carries the tile one to the third one and the other one to the fourth one, or None."""
    first = alike_frames(ground, one, other_ground, third, mirrors, False)
    second = None if first is None else alike_frames(ground, other, other_ground, fourth, mirrors, False)
    if second is None:
        return None
    firsts, seconds = [moves(frames, others, others.ends) for frames, others in (first, second)]
    found = in_both(firsts, third.lattice, seconds, fourth.lattice)
    return found[0] if len(found) > 0 else None
