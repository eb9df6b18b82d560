"""Which stretch covers which, and the rows of stretches that come of it."""

from crookroad.counts import check_count
from crookroad.errors import TooLong

MOST_STEPS = 60
LONGEST_ROW = 12
MOST_WAYS = 1000


def covered(road, stretch):
    """The stretches that this one covers, rising."""
    lesser, greater = road.reach(stretch)
    return list(range(lesser, greater))


def covers_of(road):
    """For each stretch of the road the list of those that it covers."""
    return [covered(road, stretch) for stretch in range(road.width())]


def ways_of_no_step(width):
    """The table with 1 from each stretch to itself, else 0."""
    return [[1 if end == begin else 0 for end in range(width)] for begin in range(width)]


def one_step_more(covers, table):
    """The ways that begin with one step more than those of the table."""
    return [[sum([table[via][end] for via in vias]) for end in range(len(table))] for vias in covers]


def ways_up_to(road, many):
    """The tables of the ways of 0, 1, .. many steps."""
    covers = covers_of(road)
    tables = [ways_of_no_step(road.width())]
    while len(tables) <= many:
        tables.append(one_step_more(covers, tables[-1]))
    return tables


def ways(road, many):
    """At [i][j] how many rows lead from i to j by so many steps."""
    check_count(many, 0, MOST_STEPS)
    return ways_up_to(road, many)[many]


def rows_from(first, covers, tables):
    """All closed rows that begin with this stretch, as long as the last table has steps."""
    many = len(tables) - 1
    begun = [(first,)] if tables[many][first][first] > 0 else []
    for left in range(many - 1, 0, -1):
        # The ways of fewer steps may be many more than the closed rows: only
        # what still comes back to the first stretch in time is gone through.
        begun = [
            row + (onward,)
            for row in begun
            for onward in covers[row[-1]]
            if tables[left][onward][first] > 0
        ]
    return begun


def rows(road, many):
    """All closed rows of so many stretches, in rising order."""
    check_count(many, 1, LONGEST_ROW)
    tables = ways_up_to(road, many)
    if sum([sum(counts) for counts in tables[many]]) > MOST_WAYS:
        raise TooLong("there are too many rows of so many steps")
    covers = covers_of(road)
    closed = []
    for first in range(road.width()):
        closed.extend(rows_from(first, covers, tables))
    return closed
