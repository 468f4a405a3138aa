"""A plain reckoning, one of a crowd's folk after another, to hold the package against."""

import functools
import itertools
import random
from fractions import Fraction

from tests.values import all_rules


def letters(moods, crowd):
    """The crowd, as the list of the moods of each of its folk."""
    return [mood for mood, many in zip(moods, crowd) for _ in range(many)]


def crowd_of(moods, text):
    """The crowd of the folk whose moods stand in the text."""
    return tuple(text.count(mood) for mood in moods)


def crowds(moods, many):
    """All crowds of so many folk, in the order of their texts."""
    return [crowd_of(moods, text) for text in itertools.combinations_with_replacement(moods, many)]


def in_order(moods, found):
    """The crowds in their order: by the number of their folk, then by the text of their moods."""
    return sorted(found, key=lambda crowd: (sum(crowd), "".join(letters(moods, crowd))))


@functools.lru_cache(maxsize=None)
def outs(folk, crowd):
    """The pairs (rule, crowd behind it), in the folk's order."""
    moods, rules = folk
    found = []
    for rule in rules:
        there = letters(moods, crowd)
        if rule[0][0] in there:
            there.remove(rule[0][0])
            if rule[0][1] in there:
                there.remove(rule[0][1])
                found.append((rule, crowd_of(moods, there + list(rule[1]))))
    return tuple(found)


def all_behind(folk, crowd):
    """The set of all that the crowd can come to, itself too."""
    seen, waiting = {crowd}, [crowd]
    while waiting:
        for _, behind in outs(folk, waiting.pop()):
            if behind not in seen:
                seen.add(behind)
                waiting.append(behind)
    return seen


def plain_ends(folk, crowd):
    """The set of all crowds at rest that the crowd can come to."""
    return {behind for behind in all_behind(folk, crowd) if not outs(folk, behind)}


def all_rows(folk, crowd):
    """All rows of rules that lead the crowd to rest, one behind another."""
    found = outs(folk, crowd)
    if not found:
        yield ()
    for rule, behind in found:
        for row in all_rows(folk, behind):
            yield (rule,) + row


def plain_leaps(folk, crowd):
    """The leaps to the crowd's end, and that end."""
    found = []
    while outs(folk, crowd):
        rule, times = outs(folk, crowd)[0][0], 0
        while rule in dict(outs(folk, crowd)):
            crowd = dict(outs(folk, crowd))[rule]
            times += 1
        found.append((rule, times))
    return tuple(found), crowd


@functools.lru_cache(maxsize=None)
def plain_lot(folk, crowd):
    """The chance of each end as a tuple of pairs, and the average number of meetings: each pair of folk by itself."""
    moods, rules = folk
    pairs = ["".join(pair) for pair in itertools.combinations(letters(moods, crowd), 2)]
    moving = [pair for pair in pairs if any(rule[0] == pair for rule in rules)]
    if not moving:
        return ((crowd, Fraction(1)),), Fraction(0)
    told, mean = {}, Fraction(1)
    for pair in moving:
        mine = [rule for rule in rules if rule[0] == pair]
        for rule in mine:
            share = Fraction(1, len(moving) * len(mine))
            ends, more = plain_lot(folk, dict(outs(folk, crowd))[rule])
            mean += share * more
            for last, chance in ends:
                told[last] = told.get(last, 0) + share * chance
    return tuple(told.items()), mean


def one_more_rule(folk, weighs):
    """The rule that makes one of two ends of some small crowd come to the other; None if none can, () if none need."""
    moods = folk[0]
    for crowd in crowds(moods, 2) + crowds(moods, 3):
        found = sorted(plain_ends(folk, crowd))
        if len(found) > 1:
            same = [min(one, two) for one, two in zip(*found[:2])]
            left = ["".join(letters(moods, [a - b for a, b in zip(last, same)])) for last in found[:2]]
            if len(left[0]) == 1:
                left = ["".join(sorted(mood + letters(moods, same)[0])) for mood in left]
            left.sort(key=weighs, reverse=True)
            # With equal weights, and with three unlike folk on each side, there is no such rule.
            return tuple(left) if len(left[0]) == 2 and weighs(left[0]) > weighs(left[1]) else None
    return ()


@functools.lru_cache(maxsize=None)
def one_ended_folk(many, seed):
    """Folk of all sizes that always rest and have one end: random ones, with rules added until they have."""
    dice = random.Random(seed)
    made = []
    while len(made) < many:
        moods = "".join(sorted(dice.sample("abcdefghijklmnopqrstuvwxyz", dice.randint(2, 6))))
        hidden = {mood: dice.randint(0, 12) for mood in moods}
        rules = [(f, t) for f, t in all_rules(moods) if weight(hidden, f) > weight(hidden, t)]
        rules = dice.sample(rules, min(len(rules), dice.randint(0, 5)))
        rule = one_more_rule((moods, tuple(rules)), lambda two: weight(hidden, two))
        while rule and len(rules) < 12:
            rules.append(rule)
            rule = one_more_rule((moods, tuple(rules)), lambda two: weight(hidden, two))
        if rule == ():
            dice.shuffle(rules)
            made.append((moods, tuple(rules)))
    return made


def weight(hidden, two):
    """What two moods weigh."""
    return hidden[two[0]] + hidden[two[1]]
