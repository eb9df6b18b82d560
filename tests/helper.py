"""What several test files share: roads, and slow but plain ways to reckon on them."""

from fractions import Fraction
from itertools import product

GREAT = 10 ** 70 - 1
PRIME = 2 ** 127 - 1
FAR = 10 ** 60

ZIGZAG = [0, 24] * 12 + [0]
RISING = list(range(25))
FALLING = RISING[::-1]
MIXED = [3, 5, 5, 0, 1, 4]
TENT = [0, 2, 0]
FOLDED = [0, 3, 0, 3]
# Stretches 0 to 5 cover 6 to 10, these cover 11 to 17, these cover 18 to 23; of
# the last ones 23 alone covers anything, itself. So there are more than a
# thousand ways of three steps, and few of four steps or more.
LAYERS = [11, 6] * 3 + [11, 18] * 2 + [11] + [18, 24] * 3 + [18] + [24] * 6 + [23]


def small_roads(widths=(1, 2, 3)):
    for width in widths:
        for heights in product(range(width + 1), repeat=width + 1):
            yield list(heights)


def great_roads():
    yield ZIGZAG
    yield RISING
    yield FALLING
    yield [7] * 25
    yield [k * k % 25 for k in range(25)]
    yield [k * 7 % 13 for k in range(13)]
    yield MIXED


def line_over(heights, x):
    """The line's height as a sum of tents, one for each corner."""
    return sum(height * max(Fraction(0), 1 - abs(x - k)) for k, height in enumerate(heights))


def step_from(heights, x):
    """One step from x, by the stretch in which x lies."""
    k = min(x.numerator // x.denominator, len(heights) - 2)
    return heights[k] + (heights[k + 1] - heights[k]) * (x - k)


def steps_from(heights, x, many):
    """The place after so many steps from x."""
    for k in range(many):
        x = step_from(heights, x)
    return x


def back_first(heights, x, most):
    """The least number of steps up to the most after which x is back, or None."""
    here = x
    for many in range(1, most + 1):
        here = step_from(heights, here)
        if here == x:
            return many
    return None


def as_point(x):
    return (x.numerator, x.denominator)


def fractions(width, bottoms):
    """All places on a road of that width with such bottoms, rising."""
    return sorted({Fraction(top, bottom) for bottom in bottoms for top in range(width * bottom + 1)})


def covering(heights, one, other):
    """Whether a stretch covers another, by the words of the document."""
    low, high = sorted(heights[one:one + 2])
    return low <= other and high >= other + 1


def is_row(heights, row):
    """Whether each stretch of the row covers the following one."""
    return all(covering(heights, one, other) for one, other in zip(row, row[1:]))


def table_by_rows(heights, many):
    """The ways of so many steps, by all rows tried one by one."""
    width = len(heights) - 1
    table = [[0] * width for k in range(width)]
    for row in product(range(width), repeat=many + 1):
        if is_row(heights, row):
            table[row[0]][row[-1]] += 1
    return table


def after_table(one, other):
    """The ways of one table followed by those of the other."""
    places = range(len(one))
    return [[sum(one[i][k] * other[k][j] for k in places) for j in places] for i in places]


def table_of(heights, many):
    """The ways of so many steps, by the covering alone."""
    places = range(len(heights) - 1)
    single = [[int(covering(heights, i, j)) for j in places] for i in places]
    table = [[int(i == j) for j in places] for i in places]
    for k in range(many):
        table = after_table(table, single)
    return table


def total(table):
    return sum(sum(line) for line in table)


def too_long(heights, many):
    return total(table_of(heights, many)) > 1000


def bent_line(heights, many):
    """The line of so many steps: (place, height) wherever it may bend."""
    knots = [(Fraction(k), Fraction(k)) for k in range(len(heights))]
    for k in range(many):
        knots = line_on(heights, knots)
    return knots


def line_on(heights, knots):
    """The bent line of one step more."""
    return [(x, step_from(heights, y)) for x, y in with_whole_heights(knots)]


def with_whole_heights(knots):
    put = [knots[0]]
    for (left, low), (right, high) in zip(knots, knots[1:]):
        wholes = [y for y in range(int(min(low, high)), int(max(low, high)) + 1) if min(low, high) < y < max(low, high)]
        for y in sorted(wholes, reverse=high < low):
            put.append((left + (right - left) * (y - low) / (high - low), Fraction(y)))
        put.append((right, high))
    return put


def back_on_line(heights, many):
    """What is back after so many steps, by where the bent line crosses the even one."""
    width = len(heights) - 1
    crossed = set()
    standing = [True] * width
    knots = bent_line(heights, many)
    for (left, low), (right, high) in zip(knots, knots[1:]):
        one, other = low - left, high - right
        if one == 0 == other:
            crossed |= {left, right}
            continue
        standing[int(left)] = False
        if one * other <= 0:
            crossed.add(left + (right - left) * one / (one - other))
    wholes = [k for k in range(width) if standing[k]]
    return [x for x in sorted(crossed) if not any(k <= x <= k + 1 for k in wholes)], wholes


def lengths_on_line(heights, most):
    """All least numbers up to the most, by the bent lines."""
    found = set()
    for many in range(1, most + 1):
        points, wholes = back_on_line(heights, many)
        for k in wholes:
            points = points + [k + Fraction(part, 42) for part in (0, 1, 14, 21, 28, 30, 42)]
        found |= {back_first(heights, x, many) for x in points}
    return sorted(found)
