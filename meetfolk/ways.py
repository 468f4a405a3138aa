"""The ways of crowds: what each rule takes and brings, and the crowds that come of a crowd.

A step is (rule, one, two, losses): the places of the two folk of the rule's from among the moods, and how many each
mood loses by one use. The ways of a crowd are pairs (rule, crowd behind it), in the folk's order.
"""

from meetfolk.crowds import demand_room
from meetfolk.errors import TooMany
from meetfolk.resting import loss_of

MOST_LEAPS = 5000


def crowd_order(crowd):
    """Return what crowds are ordered by: the number of their folk, then the text of their moods.

    Of two such texts of one length the one that has more of the first mood that tells them apart is ahead.
    """
    return sum(crowd), tuple([-many for many in crowd])


def crowds_of(width, many):
    """Return the list of all crowds of so many folk in moods that are `width` in number, in their order."""
    if width == 1:
        return [(many,)]
    return [(first,) + others for first in range(many, -1, -1) for others in crowds_of(width - 1, many - first)]


def with_more(crowd, more, times):
    """Return the crowd with so many times the folk of `more` besides."""
    return tuple([many + times * come for many, come in zip(crowd, more)])


def rising(held, crowds):
    """Return the list of the crowds by what they weigh, the lightest ones first.

    By the weights every rule loses, so each crowd stands behind all those that it can come to.
    """
    return sorted(crowds, key=lambda crowd: sum([weight * many for weight, many in zip(held, crowd)]))


def steps_of(folk):
    """Return the list of the steps of the folk's rules, in their order."""
    moods, rules = folk
    return [(rule, moods.index(rule[0][0]), moods.index(rule[0][1]), loss_of(moods, rule)) for rule in rules]


def are_there(crowd, one, two):
    """Tell whether two folk in the moods at these places are in the crowd."""
    if one == two:
        return crowd[one] > 1
    return crowd[one] > 0 and crowd[two] > 0


def ways_out(steps, crowd):
    """Return the list of the crowd's ways."""
    return [
        (rule, with_more(crowd, losses, -1)) for rule, one, two, losses in steps if are_there(crowd, one, two)
    ]


def ways_from(steps, crowd):
    """Return the dict that tells the ways of the crowd and of all crowds that it can come to."""
    ways = {}
    waiting = [crowd]
    while waiting:
        here = waiting.pop()
        if here not in ways:
            ways[here] = ways_out(steps, here)
            waiting.extend([behind for _, behind in ways[here]])
    return ways


def most_uses(crowd, one, two, losses):
    """Return how often a rule that can be used can be used, one use behind another."""
    need = 2 if one == two else 1
    # Only a mood that loses can come to lack; a mood whose folk the rule gives back never does.
    return min([(crowd[place] - need) // losses[place] + 1 for place in (one, two) if losses[place] > 0])


def first_leap(steps, crowd):
    """Return the crowd's first leap as (rule, times, crowd behind it), None for a crowd at rest."""
    for rule, one, two, losses in steps:
        if are_there(crowd, one, two):
            times = most_uses(crowd, one, two, losses)
            return rule, times, with_more(crowd, losses, -times)
    return None


def leaps_from(steps, crowd):
    """Return the list of the leaps that lead the crowd to its end, and that end.

    Within a leap each mood only grows or only shrinks, so it has its most at the beginning or behind the leap.
    """
    found = []
    leap = first_leap(steps, crowd)
    while leap is not None:
        if len(found) == MOST_LEAPS:
            raise TooMany(MOST_LEAPS)
        rule, times, crowd = leap
        demand_room(crowd)
        found.append((rule, times))
        leap = first_leap(steps, crowd)
    return found, crowd


def end_of_each(steps, held, crowds):
    """Return the dict that tells the end of each of the crowds, if these are all crowds of a number of folk.

    The folk have one end, so the crowd behind the first leap has the same one.
    """
    told = {}
    for crowd in rising(held, crowds):
        leap = first_leap(steps, crowd)
        told[crowd] = crowd if leap is None else told[leap[2]]
    return told
