"""[19]: other letters for the moods, by which the rules stay the same."""

import itertools
import random
import unittest

from meetfolk.ending import end, ends
from meetfolk.errors import BadFolk
from meetfolk.resting import always_rests
from meetfolk.shapes import likenesses, rest_shapes
from tests.plain import crowds, one_ended_folk
from tests.values import all_rules, odd_values, shown, some_folk

LIKENESSES = (
    (("a", ()), ("a",)), (("ab", ()), ("ab", "ba")), (("xyz", ()), ("xyz", "xzy", "yxz", "yzx", "zxy", "zyx")),
    (("ab", (("aa", "bb"),)), ("ab",)), (("ab", (("aa", "bb"), ("bb", "aa"))), ("ab", "ba")),
    (("ab", (("aa", "ab"), ("bb", "ab"))), ("ab", "ba")), (("ab", (("ab", "aa"), ("ab", "bb"))), ("ab", "ba")),
    (("ab", (("aa", "ab"), ("ab", "bb"))), ("ab",)), (("abc", (("ab", "cc"),)), ("abc", "bac")),
    (("abc", (("ab", "cc"), ("aa", "cc"), ("bb", "cc"))), ("abc", "bac")), (("abc", (("aa", "bc"),)), ("abc", "acb")),
    # A ring: it can be turned, but not the other way round.
    (("abc", (("aa", "bb"), ("bb", "cc"), ("cc", "aa"))), ("abc", "bca", "cab")),
    (("abc", (("ab", "cc"), ("bc", "aa"), ("ac", "bb"))), ("abc", "acb", "bac", "bca", "cab", "cba")),
    (("abcd", (("ab", "cc"), ("ab", "dd"))), ("abcd", "abdc", "bacd", "badc")),
    (("abcd", (("ab", "cd"),)), ("abcd", "abdc", "bacd", "badc")),
    (("abcd", (("ab", "cd"), ("cd", "ab"))), ("abcd", "abdc", "bacd", "badc", "cdab", "cdba", "dcab", "dcba")),
    (("bxz", (("bx", "zz"),)), ("bxz", "xbz")),
)

# Folk that always rest, have one end and can be called otherwise.
ONE_ENDED = (
    ("abc", (("ab", "cc"),)), ("ab", ()), ("abc", (("aa", "bc"),)), ("abcd", (("ab", "cd"),)), ("abcd", ()),
    ("abcdef", (("ab", "ff"), ("cd", "ff"))), ("abcd", (("aa", "cc"), ("bb", "dd"))), ("abc", (("cc", "ab"),)),
)


def called(names, two):
    return "".join(sorted(names[mood] for mood in two))


def plain_likenesses(folk):
    """The texts, tried one after another by dicts and sets."""
    moods, rules = folk
    found = []
    for text in sorted("".join(order) for order in itertools.permutations(moods)):
        names = dict(zip(moods, text))
        if {(called(names, before), called(names, behind)) for before, behind in rules} == set(rules):
            found.append(text)
    return tuple(found)


def crowd_called(moods, text, crowd):
    """The crowd whose folk in each mood are in the one that it is called."""
    told = dict(zip(text, crowd))
    return tuple(told[mood] for mood in moods)


def alike_folk(many, seed):
    """Folk that are made to be the same when some moods are called otherwise."""
    dice = random.Random(seed)
    made = []
    while len(made) < many:
        moods = "abcdef"[:dice.randint(2, 6)]
        names = dict(zip(moods, dice.sample(moods, len(moods))))
        rules = set()
        for before, behind in dice.sample(all_rules(moods), 2):
            rule = before, behind
            while rule not in rules:
                rules.add(rule)
                rule = called(names, rule[0]), called(names, rule[1])
        if len(rules) <= 12:
            made.append((moods, tuple(dice.sample(sorted(rules), len(rules)))))
    return made


class TestLikenesses(unittest.TestCase):
    def test_likenesses_that_are_told(self):
        for folk, told in LIKENESSES:
            with self.subTest(folk):
                self.assertEqual(likenesses(folk), told)
                self.assertIs(type(likenesses(folk)), tuple)

    def test_folk_with_no_rules(self):
        for many in range(1, 7):
            moods = "cdfgxz"[:many]
            self.assertEqual(likenesses((moods, ())), tuple("".join(order) for order in itertools.permutations(moods)))

    def test_against_all_orders(self):
        several = 0
        for folk in some_folk(60, 61) + alike_folk(60, 62) + one_ended_folk(20, 63):
            told = plain_likenesses(folk)
            self.assertEqual(likenesses(folk), told, folk)
            several += len(told) > 1
        self.assertGreater(several, 60)

    def test_rules_in_any_order(self):
        dice = random.Random(64)
        for moods, rules in alike_folk(30, 65):
            turned = list(rules)
            dice.shuffle(turned)
            self.assertEqual(likenesses((moods, tuple(turned))), likenesses((moods, rules)))

    def test_twelve_rules_of_six_moods(self):
        ring = tuple((one + one, two + two) for one, two in zip("abcdef", "bcdefa"))
        other = tuple((two + two, one + one) for one, two in zip("abcdef", "bcdefa"))
        self.assertEqual(likenesses(("abcdef", ring)), tuple("abcdefabcdef"[at:at + 6] for at in range(6)))
        self.assertEqual(len(likenesses(("abcdef", ring + other))), 12)

    def test_the_ends_go_with_them(self):
        seen = 0
        for folk in ONE_ENDED + tuple(one_ended_folk(40, 66)):
            moods, texts = folk[0], likenesses(folk)
            last = {crowd: end(folk, crowd) for many in range(5) for crowd in crowds(moods, many)}
            for text in texts:
                for crowd in last:
                    self.assertEqual(last[crowd_called(moods, text, crowd)], crowd_called(moods, text, last[crowd]))
            seen += len(texts) > 1
        self.assertGreater(seen, 10)

    def test_the_ends_of_great_crowds_go_with_them(self):
        dice = random.Random(69)
        for folk in ONE_ENDED:
            moods, texts = folk[0], likenesses(folk)
            self.assertGreater(len(texts), 1)
            for text in dice.sample(texts, 2):
                crowd = tuple(dice.randrange(10 ** 38) for _ in moods)
                last = crowd_called(moods, text, end(folk, crowd))
                self.assertEqual(end(folk, crowd_called(moods, text, crowd)), last)

    def test_many_ends_go_with_them_too(self):
        for folk in alike_folk(80, 67):
            if always_rests(folk):
                for text in likenesses(folk):
                    for crowd in crowds(folk[0], 3):
                        found = {crowd_called(folk[0], text, last) for last in ends(folk, crowd)}
                        self.assertEqual(set(ends(folk, crowd_called(folk[0], text, crowd))), found)

    def test_shapes_go_with_them(self):
        for folk in alike_folk(60, 68):
            shapes = rest_shapes(folk)
            for text in likenesses(folk):
                turned = ["".join(crowd_called(folk[0], text, shape)) for shape in shapes]
                self.assertEqual(tuple(sorted(turned)), shapes)

    def test_wrong_folk(self):
        for value in odd_values():
            with self.subTest(shown(value)), self.assertRaises(BadFolk):
                likenesses(value)


if __name__ == "__main__":
    unittest.main()
