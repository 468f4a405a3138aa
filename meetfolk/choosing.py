"""What somebody who chooses the meetings can come to, what a fair lot comes to, and the least crowds to begin with."""

from meetfolk.crowds import demand_mood, demand_number
from meetfolk.ending import course_of, demand_one_end
from meetfolk.resting import weights
from meetfolk.shares import added, portion
from meetfolk.ways import crowd_order, crowds_of, end_of_each, steps_of

MOST_TO_BEGIN = 7


def most_by_crowd(course):
    """Return the dict that tells for each crowd of the course the most meetings until rest."""
    most = {}
    for here in course:
        most[here] = max([1 + most[behind] for _, behind in course[here]], default=0)
    return most


def fewest_by_crowd(course):
    """Return the dict that tells for each crowd of the course the fewest meetings until rest."""
    fewest = {}
    for here in course:
        fewest[here] = min([1 + fewest[behind] for _, behind in course[here]], default=0)
    return fewest


def rows_by_crowd(course):
    """Return the dict that tells for each crowd of the course how many rows of rules lead to rest."""
    rows = {}
    for here in course:
        rows[here] = sum([rows[behind] for _, behind in course[here]]) if course[here] else 1
    return rows


def pairs_in(moods, crowd, two):
    """Return how many pairs of folk of the crowd are in these two moods."""
    first, second = crowd[moods.index(two[0])], crowd[moods.index(two[1])]
    if two[0] == two[1]:
        return first * (first - 1) // 2
    return first * second


def lot(moods, crowd, ways):
    """Return the list of (crowd behind, top, bottom): the part of the lot that falls on each of the crowd's ways."""
    moving = [rule[0] for rule, _ in ways]
    pairs = {two: pairs_in(moods, crowd, two) for two in moving}
    total = sum(pairs.values())
    return [(behind, pairs[rule[0]], total * moving.count(rule[0])) for rule, behind in ways]


def visits(folk, crowd, course):
    """Return the dict that tells for each crowd of the course the share with which the lot comes by it."""
    shares = {here: (0, 1) for here in course}
    shares[crowd] = (1, 1)
    # No crowd is come by twice, and all ways to a crowd are known when its own turn comes.
    for here in reversed(list(course)):
        for behind, top, bottom in lot(folk[0], here, course[here]):
            shares[behind] = added(shares[behind], portion(shares[here], top, bottom))
    return shares


def demand_wish(folk, mood, many):
    """Raise the errors of the folk, the mood and the number, in this order."""
    demand_one_end(folk, weights(folk))
    demand_mood(folk, mood)
    demand_number(many, MOST_TO_BEGIN)


def crowds_and_ends(folk):
    """Return the list of (crowd, its end) for all crowds of at most 7 folk, in the order of crowds."""
    steps, held = steps_of(folk), weights(folk)
    found = []
    for many in range(MOST_TO_BEGIN + 1):
        crowds = crowds_of(len(folk[0]), many)
        told = end_of_each(steps, held, crowds)
        found.extend([(crowd, told[crowd]) for crowd in crowds])
    return found


def longest(folk, crowd):
    """Return the most meetings until rest."""
    return most_by_crowd(course_of(folk, crowd))[crowd]


def shortest(folk, crowd):
    """Return the fewest meetings until rest."""
    return fewest_by_crowd(course_of(folk, crowd))[crowd]


def longest_row(folk, crowd):
    """Return the least one of the rows of rules to rest with most meetings, rules ordered as in the folk."""
    course = course_of(folk, crowd)
    most = most_by_crowd(course)
    row = []
    while course[crowd]:
        left = most[crowd] - 1
        rule, crowd = [way for way in course[crowd] if most[way[1]] == left][0]
        row.append(rule)
    return tuple(row)


def count_rows(folk, crowd):
    """Return how many unlike rows of rules lead to rest."""
    return rows_by_crowd(course_of(folk, crowd))[crowd]


def chances(folk, crowd):
    """Return the dict that tells for each end the share with which a fair lot comes to it."""
    course = course_of(folk, crowd)
    shares = visits(folk, crowd, course)
    last = sorted([here for here in course if not course[here]], key=crowd_order)
    return {here: shares[here] for here in last}


def expected(folk, crowd):
    """Return how many meetings there are on the average by a fair lot, a share."""
    course = course_of(folk, crowd)
    shares = visits(folk, crowd, course)
    total = (0, 1)
    for here in course:
        if course[here]:
            total = added(total, shares[here])
    return total


def least_crowd(folk, mood, many):
    """Return the least crowd of at most 7 folk in whose end at least so many are in the mood, None if there is none."""
    demand_wish(folk, mood, many)
    place = folk[0].index(mood)
    for crowd, last in crowds_and_ends(folk):
        if last[place] >= many:
            return crowd
    return None


def least_other(folk, mood, many):
    """Return the least such crowd that has fewer than so many in the mood at the beginning, None if there is none."""
    demand_wish(folk, mood, many)
    place = folk[0].index(mood)
    for crowd, last in crowds_and_ends(folk):
        if crowd[place] < many <= last[place]:
            return crowd
    return None
