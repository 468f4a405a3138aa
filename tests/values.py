"""Values of every kind, and folk, for the tests."""

import itertools
import random


def shown(value):
    """A short text that tells a value; Python prints no integer of more than 4300 figures."""
    try:
        return repr(value)[:100]
    except ValueError:
        return "a value with a great integer"


def nested(kind, deep):
    """A value that is nested `deep` times in tuples, lists or dicts."""
    value = 7
    for _ in range(deep):
        value = {tuple: (value,), list: [value], dict: {"a": value}}[kind]
    return value


def odd_values():
    """Values of every kind that are neither folk, a crowd of three moods, a rule, a row nor a paper."""
    return [
        None, True, False,
        0, 1, -1, 8, 10 ** 40, 10 ** 40 + 1, -(10 ** 40), 10 ** 5000,
        "", "a", "abc", "ab", "weights", "round", "A", "\n", "\u00e4\u00f6", "a" * 10000,
        (None,), (True, False, True), (0,), (0, 0), (0, 0, 0, 0), ("abc",), ("abc", None), ("abc", 3),
        ("abc", ()) + ((),), (((),),), ("ab", "cc", "aa"), ("ab", ["cc"]), (("ab",), ("cc",)),
        [], [0, 0, 0], ["abc", ()], ["ab", "cc"], [("ab", "cc")], [[]],
        {}, {"abc": ()}, {0: 0, 1: 0, 2: 0}, {("ab", "cc"): 1}, {"ab": {"cc": [None, (1,)]}},
        nested(tuple, 30), nested(list, 30), nested(dict, 30), (nested(tuple, 29),) * 3, (nested(list, 29),) * 2,
    ]


def all_rules(moods):
    """All rules that folk of these moods can have."""
    pairs = [one + two for one, two in itertools.combinations_with_replacement(moods, 2)]
    return [(before, behind) for before in pairs for behind in pairs if before != behind]


def some_folk(many, seed):
    """Folk of every size, among them many that always rest and many that do not; the same at every call."""
    dice = random.Random(seed)
    made = []
    for _ in range(many):
        moods = "".join(sorted(dice.sample("abcdefghijklmnopqrstuvwxyz", dice.randint(1, 6))))
        rules = all_rules(moods)
        if dice.random() < 0.5:
            hidden = {mood: dice.randint(0, 40) for mood in moods}
            rules = [(f, t) for f, t in rules if hidden[f[0]] + hidden[f[1]] > hidden[t[0]] + hidden[t[1]]]
        dice.shuffle(rules)
        made.append((moods, tuple(rules[:dice.randint(0, 12)])))
    return made
