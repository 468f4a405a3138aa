"""[20]: moods lumped to classes."""

import functools
import itertools
import random
import unittest

from meetfolk.crowds import is_at_rest, is_folk
from meetfolk.ending import end, ends, is_one_ended
from meetfolk.errors import BadClasses, BadCrowd, BadFolk, FolkError, NoLump
from meetfolk.resting import always_rests
from meetfolk.shapes import lumped, lumped_crowd, lumps
from tests.plain import crowds, one_ended_folk, outs
from tests.values import all_rules, odd_values, shown, some_folk

FOLK = ("abc", (("ab", "cc"), ("aa", "cc"), ("bb", "cc")))
TOP = 10 ** 40

# How many classes texts there are for so many moods.
MANY_CLASSES = {1: 1, 2: 2, 3: 5, 4: 15, 5: 52, 6: 203}

LUMPS = (
    (("a", ()), ("a",)), (("ab", ()), ("aa", "ab")), (("abc", ()), ("aaa", "aac", "aba", "abb", "abc")),
    (("ab", (("aa", "bb"),)), ("aa", "ab")), (("abc", (("ab", "cc"),)), ("aaa", "abc")), (FOLK, ("aaa", "aac", "abc")),
    # Of a and b in one class, some pairs turn out of it and others do not.
    (("abc", (("aa", "cc"), ("ab", "cc"))), ("aaa", "abc")),
    (("abc", (("aa", "cc"), ("bb", "cc"))), ("aaa", "aba", "abb", "abc")),
    # They turn, but to unlike pairs by classes.
    (("abc", (("aa", "cc"), ("ab", "ac"), ("bb", "cc"))), ("aaa", "abb", "abc")),
    # Rules within the classes change nothing by them.
    (("abc", (("aa", "bb"),)), ("aaa", "aac", "abb", "abc")), (("abc", (("ac", "bc"),)), ("aaa", "aac", "abc")),
    (("abc", (("ac", "cc"),)), ("aaa", "aba", "abc")), (("abc", (("ab", "ac"),)), ("aaa", "abb", "abc")),
    (("bxz", (("bx", "bb"), ("bz", "bb"))), ("bbb", "bxx", "bxz")),
    (("bxz", (("xx", "zz"),)), ("bbb", "bxb", "bxx", "bxz")),
    (("abcd", (("ab", "cd"), ("aa", "cc"), ("bb", "dd"))), ("aaaa", "aacc", "abab", "abcc", "abcd")),
)

LUMPED = (
    (FOLK, "aac", ("ac", (("aa", "cc"),))), (FOLK, "abc", ("abc", (("aa", "cc"), ("ab", "cc"), ("bb", "cc")))),
    (FOLK, "aaa", ("a", ())), (("abc", ()), "aba", ("ab", ())), (("abc", (("ac", "bc"),)), "aac", ("ac", ())),
    (("abcd", (("ab", "cd"), ("aa", "cc"), ("bb", "dd"))), "aacc", ("ac", (("aa", "cc"),))),
    # By classes the letters of a rule may have to change their places, and the rules theirs.
    (("abc", (("bc", "bb"), ("ab", "bb"))), "aba", ("ab", (("ab", "bb"),))),
    (("abc", (("bc", "ac"), ("ab", "aa"))), "aba", ("ab", (("ab", "aa"),))),
    (("abc", (("bb", "bc"), ("bb", "ab"))), "aba", ("ab", (("bb", "ab"),))),
    (("abcd", (("dd", "bb"), ("bb", "aa"), ("cc", "bb"), ("cd", "bb"))), "abcc", ("abc", (("bb", "aa"), ("cc", "bb")))),
    (("bxz", (("xz", "zz"), ("xx", "zz"), ("xx", "xz"))), "bxx", ("bx", ())),
)


def are_classes(moods, text):
    """Whether each letter of the text is the mood of the first place at which it stands."""
    return all(moods[text.index(letter)] == letter for letter in text)


@functools.lru_cache(maxsize=None)
def plain_classes(moods):
    """All texts that tell classes."""
    texts = ["".join(text) for text in itertools.product(moods, repeat=len(moods))]
    return sorted(text for text in texts if are_classes(moods, text))


def by_classes(folk, classes, two):
    """Two moods by classes."""
    told = dict(zip(folk[0], classes))
    return "".join(sorted(told[mood] for mood in two))


def can_turn(folk, classes, two):
    """The pairs by classes to which two moods can turn by rules."""
    return {by_classes(folk, classes, behind) for before, behind in folk[1] if before == two}


def plain_can_be_lumped(folk, classes):
    """Whether they can, by the words of the point."""
    pairs = ["".join(two) for two in itertools.combinations_with_replacement(folk[0], 2)]
    for one, other in itertools.product(pairs, repeat=2):
        here = by_classes(folk, classes, one)
        if here == by_classes(folk, classes, other):
            if can_turn(folk, classes, one) - {here} != can_turn(folk, classes, other) - {here}:
                return False
    return True


def plain_lumped(folk, classes):
    """The lumped folk, by the words of the point."""
    rules = {tuple(by_classes(folk, classes, two) for two in rule) for rule in folk[1]}
    moods = [mood for mood in folk[0] if mood in classes]
    return "".join(moods), tuple(sorted(rule for rule in rules if rule[0] != rule[1]))


def plain_lumped_crowd(folk, classes, crowd):
    told = {}
    for first, many in zip(classes, crowd):
        told[first] = told.get(first, 0) + many
    return tuple(told[first] for first in sorted(told))


def lumping_folk(many, seed):
    """Folk that are made to be lumped: rules by classes, each told for all moods of the classes."""
    dice = random.Random(seed)
    made = []
    while len(made) < many:
        moods = "abcdef"[:dice.randint(2, 6)]
        classes = dice.choice(plain_classes(moods))
        rules = set()
        before, behind = dice.choice(all_rules("".join(sorted(set(classes)))) or [("aa", "aa")])
        for two in itertools.combinations_with_replacement(moods, 2):
            if by_classes((moods, ()), classes, two) == before:
                turned = [dice.choice([mood for mood, own in zip(moods, classes) if own == one]) for one in behind]
                rules.add(("".join(two), "".join(sorted(turned))))
        told = {two: by_classes((moods, ()), classes, two) for rule in all_rules(moods) for two in rule}
        within = [(before, behind) for before, behind in all_rules(moods) if told[before] == told[behind]]
        rules |= set(dice.sample(within, min(len(within), dice.randint(0, 2))))
        rules = [rule for rule in rules if rule[0] != rule[1]]
        if len(rules) <= 12:
            made.append((moods, tuple(dice.sample(sorted(rules), len(rules)))))
    return made


def many_folk():
    return [folk for folk, _ in LUMPS] + some_folk(50, 71) + lumping_folk(60, 72) + one_ended_folk(20, 73)


class TestLumps(unittest.TestCase):
    def test_lumps_that_are_told(self):
        for folk, told in LUMPS:
            with self.subTest(folk):
                self.assertEqual(lumps(folk), told)
                self.assertIs(type(lumps(folk)), tuple)

    def test_folk_with_no_rules(self):
        for many, classes in MANY_CLASSES.items():
            moods = "bcfgxz"[:many]
            self.assertEqual(len(lumps((moods, ()))), classes)
            self.assertEqual(list(lumps((moods, ()))), plain_classes(moods))

    def test_against_the_words_of_the_point(self):
        several = 0
        for folk in many_folk():
            told = [classes for classes in plain_classes(folk[0]) if plain_can_be_lumped(folk, classes)]
            self.assertEqual(list(lumps(folk)), told, folk)
            several += 2 < len(told) < MANY_CLASSES[len(folk[0])]
        self.assertGreater(several, 40)

    def test_the_texts_that_are_always_there(self):
        for folk in many_folk():
            moods = folk[0]
            self.assertIn(moods, lumps(folk))
            self.assertIn(moods[0] * len(moods), lumps(folk))
            self.assertEqual(lumped(folk, moods), (moods, tuple(sorted(folk[1]))))
            self.assertEqual(lumped(folk, moods[0] * len(moods)), (moods[0], ()))

    def test_rules_in_any_order(self):
        for moods, rules in lumping_folk(30, 74):
            self.assertEqual(lumps((moods, rules[::-1])), lumps((moods, rules)))

    def test_six_moods_and_twelve_rules(self):
        rules = tuple((two, "ff") for two in map("".join, itertools.combinations_with_replacement("abcd", 2)))
        folk = ("abcdef", rules + (("ae", "be"), ("ce", "de")))
        self.assertEqual(len(folk[1]), 12)
        self.assertIn("aaaaef", lumps(folk))
        self.assertEqual(lumped(folk, "aaaaef"), ("aef", (("aa", "ff"),)))


class TestLumped(unittest.TestCase):
    def test_folk_that_are_told(self):
        for folk, classes, told in LUMPED:
            with self.subTest(folk=folk, classes=classes):
                self.assertEqual(lumped(folk, classes), told)

    def test_all_classes_of_many_folk(self):
        for folk in many_folk():
            good = lumps(folk)
            for classes in plain_classes(folk[0]):
                if classes in good:
                    told = lumped(folk, classes)
                    self.assertIs(is_folk(told), True)
                    self.assertEqual(told, plain_lumped(folk, classes))
                else:
                    with self.assertRaises(NoLump):
                        lumped(folk, classes)

    def test_lumps_of_lumped_folk(self):
        for folk in lumping_folk(30, 75):
            for classes in lumps(folk):
                others = lumped(folk, classes)
                for further in lumps(others):
                    both = "".join(further[others[0].index(first)] for first in classes)
                    self.assertIn(both, lumps(folk))
                    self.assertEqual(lumped(others, further), lumped(folk, both))

    def test_what_crowds_come_to_goes_with_them(self):
        for folk in lumping_folk(40, 76):
            for classes in lumps(folk):
                others = lumped(folk, classes)
                for crowd in crowds(folk[0], 3):
                    here = lumped_crowd(folk, classes, crowd)
                    behind = {lumped_crowd(folk, classes, one) for _, one in outs(folk, crowd)} - {here}
                    self.assertEqual({one for _, one in outs(others, here)}, behind)
                    if is_at_rest(folk, crowd):
                        self.assertIs(is_at_rest(others, here), True)

    def test_the_ends_go_with_them(self):
        seen = 0
        one_ended = [folk for folk in lumping_folk(120, 77) if always_rests(folk) and is_one_ended(folk)]
        for folk in one_ended + one_ended_folk(10, 78):
            last = {crowd: end(folk, crowd) for many in range(4) for crowd in crowds(folk[0], many)}
            for classes in lumps(folk)[:8]:
                others = lumped(folk, classes)
                self.assertTrue(always_rests(others) and is_one_ended(others))
                told = {}
                for crowd in last:
                    here = lumped_crowd(folk, classes, crowd)
                    if here not in told:
                        told[here] = end(others, here)
                    self.assertEqual(told[here], lumped_crowd(folk, classes, last[crowd]))
                seen += 1 < len(others[0]) < len(folk[0]) and bool(others[1])
        self.assertGreater(seen, 20)

    def test_many_ends_go_with_them_too(self):
        for folk in lumping_folk(60, 79):
            if always_rests(folk):
                for classes in lumps(folk)[:6]:
                    others = lumped(folk, classes)
                    for crowd in crowds(folk[0], 3):
                        here = lumped_crowd(folk, classes, crowd)
                        found = {lumped_crowd(folk, classes, last) for last in ends(folk, crowd)}
                        self.assertEqual(set(ends(others, here)), found)


class TestLumpedCrowds(unittest.TestCase):
    def test_crowds_that_are_told(self):
        for classes, told in (("aac", (5, 4)), ("aba", (6, 3)), ("abb", (2, 7)), ("aaa", (9,)), ("abc", (2, 3, 4))):
            self.assertEqual(lumped_crowd(FOLK, classes, (2, 3, 4)), told)

    def test_classes_by_which_they_cannot_be_lumped(self):
        self.assertNotIn("aba", lumps(FOLK))
        self.assertEqual(lumped_crowd(FOLK, "aba", (1, 2, 3)), (4, 2))

    def test_great_crowds(self):
        self.assertEqual(lumped_crowd(FOLK, "aac", (TOP, TOP, TOP)), (2 * TOP, TOP))
        self.assertEqual(lumped_crowd(("abcdef", ()), "aaaaaa", (TOP,) * 6), (6 * TOP,))

    def test_all_classes(self):
        dice = random.Random(80)
        for moods in ("a", "xz", "abc", "bcde", "abcde", "abcdef"):
            for classes in plain_classes(moods):
                crowd = tuple(dice.choice((0, 1, 5, dice.randrange(TOP))) for _ in moods)
                told = lumped_crowd((moods, ()), classes, crowd)
                self.assertEqual((told, type(told)), (plain_lumped_crowd((moods, ()), classes, crowd), tuple))


class TestErrors(unittest.TestCase):
    def assert_bad_classes(self, folk, classes):
        with self.subTest(folk=folk, classes=shown(classes)):
            with self.assertRaises(BadClasses):
                lumped(folk, classes)
            with self.assertRaises(BadClasses):
                lumped_crowd(folk, classes, (0,) * len(folk[0]))

    def test_wrong_classes(self):
        for classes in (
            "", "a", "aa", "aaaa", "abcd", "bbb", "bbc", "ccc", "cbc", "acc", "bac", "baa", "cba", "abz", "zzz", "aaC",
            "AAC", "aa ", "aac\n", " aac", "aac ", "aa\u00e4", "aa1", "000", "112", "a,c", ("a", "a", "c"),
            ["a", "a", "c"], {"a": "a", "b": "a", "c": "c"}, None, 3, True, ("aac",), ["aac"], ("aa", "c"),
        ):
            self.assert_bad_classes(FOLK, classes)
        for classes in ("abc", "aac", "bbx", "xxx", "xbx", "zzz", "bzz", "zxz"):
            self.assert_bad_classes(("bxz", ()), classes)

    def test_all_texts_of_three_letters(self):
        for text in map("".join, itertools.product("abcd", repeat=3)):
            if text in ("aaa", "aac", "aba", "abb", "abc"):
                self.assertEqual(sum(lumped_crowd(FOLK, text, (1, 2, 3))), 6)
            else:
                self.assert_bad_classes(FOLK, text)

    def test_any_value_and_the_order_of_the_errors(self):
        for value in odd_values():
            with self.subTest(shown(value)):
                with self.assertRaises(BadFolk):
                    lumps(value)
                with self.assertRaises(BadFolk):
                    lumped(value, value)
                with self.assertRaises(BadFolk):
                    lumped_crowd(value, value, value)
                if value != "abc":
                    self.assert_bad_classes(FOLK, value)
                    with self.assertRaises(BadClasses):
                        lumped_crowd(FOLK, value, value)
                with self.assertRaises(BadCrowd):
                    lumped_crowd(FOLK, "aac", value)
                with self.assertRaises(BadCrowd):
                    lumped_crowd(FOLK, "aba", value)

    def test_bad_classes_ahead_of_no_lump(self):
        self.assert_bad_classes(FOLK, "bbc")
        with self.assertRaises(NoLump):
            lumped(FOLK, "aba")
        with self.assertRaises(BadFolk):
            lumped(("abc", (("ab", "cc"), ("ab", "cc"))), "aba")

    def test_wrong_crowds(self):
        for crowd in ((1, 1), (1, 1, 1, 1), [1, 1, 1], (1, -1, 1), (TOP + 1, 0, 0), (True, 1, 1)):
            with self.assertRaises(BadCrowd):
                lumped_crowd(FOLK, "aac", crowd)

    def test_nothing_is_changed(self):
        values = odd_values() + [FOLK, "aac", (2, 3, 4)]
        for value in values:
            for function, good in ((lumps, (FOLK,)), (lumped, (FOLK, "aac")), (lumped_crowd, (FOLK, "aac", (2, 3, 4)))):
                for at in range(len(good)):
                    try:
                        function(*good[:at], value, *good[at + 1:])
                    except FolkError:
                        pass
        self.assertEqual(values, odd_values() + [FOLK, "aac", (2, 3, 4)])


if __name__ == "__main__":
    unittest.main()
