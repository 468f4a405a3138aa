"""Folk that end alike, and sums that no meeting changes."""

from meetfolk.balancing import without_common_part
from meetfolk.crowds import demand_crowd, demand_folk, is_integer
from meetfolk.ending import demand_one_end
from meetfolk.errors import BadSum, Unlike
from meetfolk.resting import loss_of, weights
from meetfolk.ways import crowds_of, end_of_each, steps_of


def losses_of(folk):
    """Return the list that tells for each rule what each mood loses by it."""
    return [loss_of(folk[0], rule) for rule in folk[1]]


def sum_in(numbers, crowd):
    """Return the sum of each mood's number times how many are in it."""
    return sum([number * many for number, many in zip(numbers, crowd)])


def demand_sum(folk, value):
    """Raise BadSum for a value that is no sum of the folk."""
    if not isinstance(value, tuple) or len(value) != len(folk[0]):
        raise BadSum()
    if not all(is_integer(number) for number in value):
        raise BadSum()


def row_with(rows, place):
    """Return the first of the rows that hasn't 0 at the place, None if there is none."""
    for row in rows:
        if row[place] != 0:
            return row
    return None


def without_place(row, lead, place):
    """Return a row with 0 at the place, made of the row and of the lead, which hasn't 0 there."""
    return [lead[place] * own - row[place] * other for own, other in zip(row, lead)]


def solved_rows(rows, width):
    """Return the dict that tells for some places the row that is solved for it: all other rows have 0 there.

    The last places are solved first. So a row has, besides the one that it is solved for, only places ahead of it.
    """
    solved = {}
    for place in reversed(range(width)):
        lead = row_with(rows, place)
        if lead is not None:
            rows = [without_place(row, lead, place) for row in rows]
            solved = {other: without_place(solved[other], lead, place) for other in solved}
            solved[place] = lead
    return solved


def sum_from(solved, free, width):
    """Return the kept sum that is above 0 at the free place and has 0 at all others that no row is solved for."""
    scale = 1
    for place in solved:
        scale = scale * abs(solved[place][place])
    numbers = [0] * width
    numbers[free] = scale
    for place in solved:
        row = solved[place]
        numbers[place] = -(scale // row[place]) * row[free]
    return without_common_part(numbers)


def kept_by(folk):
    """Return the kept sums of which all are made, in the form of [11]."""
    width = len(folk[0])
    solved = solved_rows(losses_of(folk), width)
    return tuple([sum_from(solved, place, width) for place in range(width) if place not in solved])


def ends_alike(folk, other):
    """Tell whether every crowd of every size has the same end by both folk."""
    return unlike_crowd(folk, other) is None


def unlike_crowd(folk, other):
    """Return the least crowd of two with unlike ends, None if there is none."""
    demand_folk(folk)
    demand_folk(other)
    if folk[0] != other[0]:
        raise Unlike()
    held, held_there = weights(folk), weights(other)
    demand_one_end(folk, held)
    demand_one_end(other, held_there)
    crowds = crowds_of(len(folk[0]), 2)
    here = end_of_each(steps_of(folk), held, crowds)
    there = end_of_each(steps_of(other), held_there, crowds)
    for crowd in crowds:
        if here[crowd] != there[crowd]:
            return crowd
    return None


def keeps(folk, numbers):
    """Tell whether no rule changes the sum that has these numbers, one a mood."""
    demand_folk(folk)
    demand_sum(folk, numbers)
    return all(sum_in(numbers, losses) == 0 for losses in losses_of(folk))


def kept(folk):
    """Return the one tuple of kept sums of which all kept sums are made."""
    demand_folk(folk)
    return kept_by(folk)


def are_parted(folk, crowd, other):
    """Tell whether some kept sum is unlike in two crowds."""
    demand_folk(folk)
    demand_crowd(folk, crowd)
    demand_crowd(folk, other)
    return any(sum_in(numbers, crowd) != sum_in(numbers, other) for numbers in kept_by(folk))
