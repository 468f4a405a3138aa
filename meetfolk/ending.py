"""The ends of crowds: whether there is one for each crowd, the papers that show it, and the leaps to it."""

from meetfolk.crowds import behind_row, demand_crowd, is_crowd
from meetfolk.errors import ManyEnds, TooMany
from meetfolk.resting import weights
from meetfolk.ways import crowd_order, crowds_of, leaps_from, rising, steps_of, ways_from, ways_out

MOST_FOLK = 8
SMALL = (2, 3)


def demand_few(crowd):
    """Raise TooMany for a crowd of more than 8 folk."""
    if sum(crowd) > MOST_FOLK:
        raise TooMany(MOST_FOLK)


def course_of(folk, crowd):
    """Return the dict that tells the ways of all crowds that the crowd can come to, itself too.

    Each crowd stands in it behind those that it can come to. The errors are those of [6].
    """
    held = weights(folk)
    demand_crowd(folk, crowd)
    demand_few(crowd)
    ways = ways_from(steps_of(folk), crowd)
    return {here: ways[here] for here in rising(held, ways)}


def small_crowds(folk):
    """Return the list of all crowds of two and of three, in their order."""
    return [crowd for many in SMALL for crowd in crowds_of(len(folk[0]), many)]


def small_ways(folk):
    """Return the dict that tells the ways of each crowd of two and of three, in the order of crowds."""
    steps = steps_of(folk)
    return {crowd: ways_out(steps, crowd) for crowd in small_crowds(folk)}


def ends_by_crowd(held, ways):
    """Return the dict that tells the list of the ends of each crowd, if all that they can come to are in ways."""
    told = {}
    for crowd in rising(held, ways):
        found = {}
        for _, behind in ways[crowd]:
            for last in told[behind]:
                found[last] = True
        told[crowd] = list(found) if ways[crowd] else [crowd]
    return told


def parted_crowd(ways, told):
    """Return the first crowd of ways for which more than one end is told, None if there is none."""
    for crowd in ways:
        if len(told[crowd]) > 1:
            return crowd
    return None


def parting_by(folk, held):
    """Return the least crowd of two or three with more than one end, None if there is none."""
    ways = small_ways(folk)
    return parted_crowd(ways, ends_by_crowd(held, ways))


def demand_one_end(folk, held):
    """Raise ManyEnds if some crowd of the folk, who always rest, has more than one end."""
    if parting_by(folk, held) is not None:
        raise ManyEnds()


def way_towards(ways, told, last):
    """Return the first of the ways whose crowd behind has the end `last`."""
    return [way for way in ways if last in told[way[1]]][0]


def row_to(ways, told, crowd, last):
    """Return a tuple of rules that leads the crowd to `last`, one of its ends."""
    row = []
    while crowd != last:
        rule, crowd = way_towards(ways[crowd], told, last)
        row.append(rule)
    return tuple(row)


def is_small(folk, value):
    """Tell whether the value is a crowd of two or of three."""
    return is_crowd(folk, value) and sum(value) in SMALL


def has_all_small(folk, table):
    """Tell whether the table is a dict of crowds whose keys are just the crowds of two and of three."""
    if not isinstance(table, dict) or len(table) != len(small_crowds(folk)):
        return False
    # Each key is looked at by itself: (True, 1) is found for (1, 1), but it is no crowd.
    return all(is_small(folk, crowd) and is_crowd(folk, last) for crowd, last in table.items())


def tells_one(folk, table):
    """Tell whether the table shows that each crowd of two and of three has one end."""
    if not has_all_small(folk, table):
        return False
    ways = small_ways(folk)
    for crowd in ways:
        if not ways[crowd] and table[crowd] != crowd:
            return False
        if any(table[behind] != table[crowd] for _, behind in ways[crowd]):
            return False
    return True


def is_last(folk, value):
    """Tell whether the value is a crowd at rest, which the None of a wrong row is not."""
    return value is not None and not ways_out(steps_of(folk), value)


def tells_two(folk, crowd, row, other):
    """Tell whether these are a crowd of two or three and rows that lead it to unlike crowds at rest."""
    if not is_small(folk, crowd):
        return False
    behind, beside = behind_row(folk, crowd, row), behind_row(folk, crowd, other)
    return is_last(folk, behind) and is_last(folk, beside) and behind != beside


def ends(folk, crowd):
    """Return the ascending tuple of all crowds at rest that a crowd of at most 8 folk can come to."""
    course = course_of(folk, crowd)
    return tuple(sorted([here for here in course if not course[here]], key=crowd_order))


def is_one_ended(folk):
    """Tell whether every crowd of every size has just one end."""
    return parting(folk) is None


def parting(folk):
    """Return the least crowd of two or three with more than one end, None if there is none."""
    return parting_by(folk, weights(folk))


def ends_paper(folk):
    """Return the paper that shows whether the folk have one end."""
    held = weights(folk)
    ways = small_ways(folk)
    told = ends_by_crowd(held, ways)
    crowd = parted_crowd(ways, told)
    if crowd is None:
        return "one", {small: told[small][0] for small in ways}
    first, second = told[crowd][:2]
    return "two", crowd, row_to(ways, told, crowd, first), row_to(ways, told, crowd, second)


def judged_ends(folk, paper):
    """Tell whether the paper, which may be any value, shows what it tells of the folk."""
    weights(folk)
    if not isinstance(paper, tuple):
        return False
    if len(paper) == 2 and paper[0] == "one":
        return tells_one(folk, paper[1])
    if len(paper) == 4 and paper[0] == "two":
        return tells_two(folk, paper[1], paper[2], paper[3])
    return False


def leaps(folk, crowd):
    """Return the tuple of leaps that lead the crowd to its end."""
    demand_one_end(folk, weights(folk))
    demand_crowd(folk, crowd)
    found, _ = leaps_from(steps_of(folk), crowd)
    return tuple(found)


def end(folk, crowd):
    """Return the end of the crowd."""
    demand_one_end(folk, weights(folk))
    demand_crowd(folk, crowd)
    _, last = leaps_from(steps_of(folk), crowd)
    return last
