"""Rays: how the end of a crowd goes on for ever when the same step of folk comes in again and again."""

from meetfolk.crowds import demand_crowd, demand_number, demand_room
from meetfolk.ending import demand_one_end
from meetfolk.errors import NoRay
from meetfolk.resting import weights
from meetfolk.ways import first_leap, leaps_from, steps_of, with_more

MOST_STEPS = 40
MOST_K = 10 ** 30


def demand_values(folk, crowd, step):
    """Raise the errors of the folk, the crowd and the step, in this order."""
    demand_one_end(folk, weights(folk))
    demand_crowd(folk, crowd)
    demand_crowd(folk, step)


def ends_with_steps(steps, crowd, step):
    """Return the list of the e(k) for k from 0 to 40."""
    _, last = leaps_from(steps, crowd)
    found = [last]
    for _ in range(MOST_STEPS):
        more = with_more(last, step, 1)
        demand_room(more)
        _, last = leaps_from(steps, more)
        found.append(last)
    return found


def stays_at_rest(steps, crowd, gains):
    """Tell whether the crowd is at rest, with any many times the gains more, too.

    With the gains twice a mood that gains has two folk already, and no rule needs more of one mood.
    """
    return first_leap(steps, with_more(crowd, gains, 2)) is None


def is_ray(steps, found, p, gains):
    """Tell whether the gains are nowhere below 0 and all of the ends stay at rest from the p-th on with them."""
    if any(gain < 0 for gain in gains):
        return False
    return all(stays_at_rest(steps, last, gains) for last in found[p:])


def ray_of(steps, found):
    """Return the ray (p, q, gains) of these e(k): the least p + q, then the least q."""
    for total in range(1, MOST_STEPS + 1):
        for q in range(1, total + 1):
            p = total - q
            gains = with_more(found[total], found[p], -1)
            if is_ray(steps, found[:total], p, gains):
                return p, q, gains
    raise NoRay()


def ray(folk, crowd, step):
    """Return (p, q, gains): e(k + q) is e(k) and the gains for all k from p on."""
    demand_values(folk, crowd, step)
    steps = steps_of(folk)
    return ray_of(steps, ends_with_steps(steps, crowd, step))


def on_ray(folk, crowd, step, k):
    """Return e(k) by the ray."""
    demand_values(folk, crowd, step)
    demand_number(k, MOST_K)
    steps = steps_of(folk)
    found = ends_with_steps(steps, crowd, step)
    p, q, gains = ray_of(steps, found)
    if k < p:
        return found[k]
    rounds, beyond = divmod(k - p, q)
    last = with_more(found[p + beyond], gains, rounds)
    demand_room(last)
    return last
