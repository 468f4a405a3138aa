"""[10] and [11]: folk that end alike, and kept sums."""

import itertools
import math
import random
import unittest
from fractions import Fraction

from meetfolk.alike import are_parted, ends_alike, keeps, kept, unlike_crowd
from meetfolk.crowds import meetings, met
from meetfolk.ending import end, is_one_ended
from meetfolk.errors import BadCrowd, BadFolk, BadSum, ManyEnds, NeverRests, Unlike
from meetfolk.resting import always_rests
from tests.plain import crowds, one_ended_folk, plain_ends
from tests.values import all_rules, odd_values, shown, some_folk

FOLK = ("abc", (("aa", "bc"),))
OTHER = ("abc", (("aa", "bb"),))
MANY = ("abc", (("ab", "cc"), ("aa", "bc")))
RING = ("abc", (("ab", "cc"), ("cc", "ab")))
BOTH = ("abc", (("ab", "cc"), ("cc", "ab"), ("aa", "bb"), ("aa", "bc")))
TOP = 10 ** 40


def one_ended_of(moods):
    """All folk of these moods with at most two rules that always rest and have one end."""
    found = []
    for many in range(3):
        for chosen in itertools.combinations(all_rules(moods), many):
            if always_rests((moods, chosen)) and is_one_ended((moods, chosen)):
                found.append((moods, chosen))
    return found


class TestAlike(unittest.TestCase):
    def test_folk_that_end_alike(self):
        long = ("abc", (("aa", "ab"), ("ab", "bb"), ("ac", "bc")))
        for folk, other in (
            (FOLK, FOLK), (("a", ()), ("a", ())), (("ab", (("aa", "bb"), ("ab", "bb"))), ("ab", (("aa", "ab"), ("ab", "bb")))),
            (long, ("abc", (("ab", "bb"), ("aa", "bb"), ("ac", "bc")))), (long, ("abc", long[1][::-1])),
        ):
            with self.subTest(folk=folk, other=other):
                self.assertIs(ends_alike(folk, other), True)
                self.assertIs(ends_alike(other, folk), True)
                self.assertIsNone(unlike_crowd(folk, other))

    def test_folk_that_part(self):
        for folk, other, crowd in (
            (FOLK, OTHER, (2, 0, 0)), (FOLK, ("abc", ()), (2, 0, 0)), (("abc", (("bb", "ac"),)), ("abc", (("bc", "aa"),)), (0, 2, 0)),
            (("abc", (("bc", "aa"),)), ("abc", ()), (0, 1, 1)),
            (("abc", (("cc", "ab"), ("ab", "bb"))), ("abc", (("ab", "bb"),)), (0, 0, 2)),
            (("ab", (("ab", "bb"),)), ("ab", (("aa", "bb"),)), (2, 0)), (("az", (("zz", "az"),)), ("az", ()), (0, 2)),
        ):
            with self.subTest(folk=folk, other=other):
                self.assertEqual(unlike_crowd(folk, other), crowd)
                self.assertEqual(unlike_crowd(other, folk), crowd)
                self.assertIs(type(unlike_crowd(folk, other)), tuple)
                self.assertIs(ends_alike(folk, other), False)
                self.assertNotEqual(end(folk, crowd), end(other, crowd))

    def test_against_all_crowds_of_two_and_the_larger_ones(self):
        alike = 0
        for folk, other in itertools.product(one_ended_of("abc"), repeat=2):
            unlike = [crowd for crowd in crowds("abc", 2) if plain_ends(folk, crowd) != plain_ends(other, crowd)]
            self.assertEqual(unlike_crowd(folk, other), unlike[0] if unlike else None)
            if not unlike:
                alike += 1
                self.assertIs(ends_alike(folk, other), True)
                for crowd in crowds("abc", 3)[::3] + crowds("abc", 5)[::7]:
                    self.assertEqual(end(folk, crowd), end(other, crowd))
        self.assertGreater(alike, 60)

    def test_the_end_of_two_tells_the_end_of_all(self):
        # Folk whose one rule for a pair leads straight to its end come to the same ends.
        dice = random.Random(81)
        for moods, rules in one_ended_folk(120, 82):
            straight = {}
            for two in sorted({rule[0] for rule in rules}):
                last = end((moods, rules), tuple(two.count(mood) for mood in moods))
                straight[two] = "".join(mood * many for mood, many in zip(moods, last))
            other = (moods, tuple(straight.items()))
            self.assertIs(ends_alike((moods, rules), other), True)
            self.assertIsNone(unlike_crowd(other, (moods, rules)))
            crowd = tuple(dice.randint(0, 9) for _ in moods)
            self.assertEqual(end((moods, rules), crowd), end(other, crowd))
            if rules:
                self.assertIs(ends_alike((moods, rules), (moods, ())), False)

    def test_other_moods(self):
        for other in (("abd", (("aa", "bd"),)), ("ab", (("aa", "bb"),)), ("abcd", FOLK[1]), ("a", ())):
            for function in (ends_alike, unlike_crowd):
                with self.subTest(function=function.__name__, other=other):
                    with self.assertRaises(Unlike):
                        function(FOLK, other)
                    with self.assertRaises(Unlike):
                        function(other, FOLK)

    def test_each_step_of_the_order_of_the_errors(self):
        no_folk, other_moods = ("cab", ()), ("abd", RING[1][:0])
        never_there = ("abd", (("ab", "dd"), ("dd", "ab")))
        many_there = ("abd", (("ab", "dd"), ("aa", "bd")))
        for function in (ends_alike, unlike_crowd):
            for folk, other, error in (
                (no_folk, no_folk, BadFolk), (no_folk, FOLK, BadFolk), (FOLK, no_folk, BadFolk), (RING, no_folk, BadFolk),
                (MANY, no_folk, BadFolk), (no_folk, RING, BadFolk), (RING, never_there, Unlike), (RING, many_there, Unlike),
                (MANY, never_there, Unlike), (MANY, many_there, Unlike), (FOLK, other_moods, Unlike), (RING, RING, NeverRests),
                (RING, MANY, NeverRests), (MANY, RING, NeverRests), (RING, FOLK, NeverRests), (FOLK, RING, NeverRests),
                (BOTH, MANY, NeverRests), (MANY, BOTH, NeverRests), (MANY, MANY, ManyEnds), (MANY, FOLK, ManyEnds),
                (FOLK, MANY, ManyEnds),
            ):
                with self.subTest(function=function.__name__, folk=folk, other=other):
                    with self.assertRaises(error):
                        function(folk, other)

    def test_any_value(self):
        for function in (ends_alike, unlike_crowd):
            for value in odd_values():
                for folk, other in ((value, FOLK), (FOLK, value), (value, value), (RING, value), (value, RING)):
                    with self.subTest(function=function.__name__, value=shown(value)):
                        with self.assertRaises(BadFolk):
                            function(folk, other)


def changes_of(folk):
    """For each rule, how many more of each mood there are behind it."""
    return [[to.count(mood) - before.count(mood) for mood in folk[0]] for before, to in folk[1]]


def is_kept(folk, numbers):
    return all(sum(number * change for number, change in zip(numbers, changes)) == 0 for changes in changes_of(folk))


def rank(rows):
    """How many of the rows are needed to make all others."""
    rows = [[Fraction(number) for number in row] for row in rows]
    many = 0
    for place in range(len(rows[0]) if rows else 0):
        lead = next((row for row in rows if row[place]), None)
        if lead is not None:
            rows.remove(lead)
            rows = [[own - row[place] / lead[place] * other for own, other in zip(row, lead)] for row in rows]
            many += 1
    return many


class TestSums(unittest.TestCase):
    def check_form(self, folk):
        """The kept sums have the one form of [11]."""
        found, width = kept(folk), len(folk[0])
        self.assertIs(type(found), tuple)
        firsts = []
        for numbers in found:
            self.assertEqual((type(numbers), len(numbers)), (tuple, width))
            self.assertTrue(all(type(number) is int for number in numbers))
            self.assertEqual(math.gcd(*numbers), 1)
            firsts.append([bool(number) for number in numbers].index(True))
            self.assertGreater(numbers[firsts[-1]], 0)
            self.assertEqual([other[firsts[-1]] for other in found if other != numbers], [0] * (len(found) - 1))
            self.assertTrue(is_kept(folk, numbers))
            self.assertIs(keeps(folk, numbers), True)
        self.assertEqual(firsts, sorted(set(firsts)))
        # So many kept sums stand side by side as there are moods beyond what the rules tie together.
        self.assertEqual(len(found), width - rank(changes_of(folk)))

    def test_kept(self):
        for folk, told in (
            (FOLK, ((1, 0, 2), (0, 1, -1))), (OTHER, ((1, 1, 0), (0, 0, 1))), (("abc", (("ab", "cc"),)), ((2, 0, 1), (0, 2, 1))),
            (RING, ((2, 0, 1), (0, 2, 1))), (("abcd", (("ab", "cd"),)), ((1, 0, 0, 1), (0, 1, 0, 1), (0, 0, 1, -1))),
            (("abcd", (("aa", "bc"), ("bb", "cd"))), ((1, 0, 2, -2), (0, 1, -1, 3))),
            (("abcd", (("ab", "dd"), ("bc", "dd"))), ((2, 0, 2, 1), (0, 2, 0, 1))),
            (("abcdef", (("ff", "ae"), ("ef", "cd"))), (
                (3, 0, 0, 0, -1, 1), (0, 1, 0, 0, 0, 0), (0, 0, 3, 0, 2, 1), (0, 0, 0, 3, 2, 1),
            )),
        ):
            with self.subTest(folk):
                self.assertEqual(kept(folk), told)
                self.check_form(folk)

    def test_no_rules(self):
        for many in range(1, 7):
            folk = ("abcdef"[:many], ())
            self.assertEqual(kept(folk), tuple(tuple(int(at == one) for at in range(many)) for one in range(many)))
            self.check_form(folk)
            for numbers in ((5,) * many, (0,) * many, tuple(range(many)), (-(10 ** 90),) * many):
                self.assertIs(keeps(folk, numbers), True)

    def test_no_kept_sum_but_the_sum_of_all(self):
        for folk in (
            MANY, ("ab", (("aa", "bb"),)), ("ab", (("aa", "ab"),)), ("abc", (("ab", "bb"), ("bb", "bc"))),
            ("abcdef", tuple((two + "f", "ff") for two in "abcde")),
        ):
            with self.subTest(folk):
                self.assertEqual(kept(folk), ((1,) * len(folk[0]),))
                self.check_form(folk)

    def test_the_form_for_many_folk(self):
        for folk in some_folk(600, 83):
            self.check_form(folk)

    def test_the_form_does_not_depend_on_the_order_of_the_rules(self):
        dice = random.Random(84)
        for moods, rules in some_folk(200, 85):
            self.assertEqual(kept((moods, tuple(dice.sample(rules, len(rules))))), kept((moods, rules)))

    def test_keeps_against_single_meetings(self):
        dice = random.Random(86)
        told = []
        for folk in some_folk(300, 87):
            made = [0] * len(folk[0])
            for numbers in kept(folk):
                times = dice.randint(-3, 3)
                made = [own + times * number for own, number in zip(made, numbers)]
            for numbers in (made, [number + dice.randint(0, 1) for number in made], [dice.randint(-2, 2) for _ in made]):
                crowd = (2,) * len(made)
                behind = [met(folk, crowd, rule) for rule in meetings(folk, crowd)]
                same = all(sum(n * (a - b) for n, a, b in zip(numbers, last, crowd)) == 0 for last in behind)
                self.assertIs(keeps(folk, tuple(numbers)), same)
                told.append(same)
        self.assertGreater(min(told.count(True), told.count(False)), 200)

    def test_integers_of_any_size(self):
        great = 10 ** 5000
        self.assertIs(keeps(FOLK, (great, 0, 2 * great)), True)
        self.assertIs(keeps(FOLK, (great, 0, 2 * great + 1)), False)
        self.assertIs(keeps(FOLK, (-great, -great, -great)), True)
        self.assertIs(keeps(FOLK, (0, great, -great)), True)
        self.assertIs(keeps(FOLK, (1, great, -great)), False)
        self.assertIs(keeps(FOLK, (0, 0, 0)), True)

    def test_folk_that_never_rest_have_kept_sums_too(self):
        self.assertIs(keeps(RING, (2, 0, 1)), True)
        self.assertIs(keeps(RING, (1, 0, 1)), False)
        self.assertIs(are_parted(RING, (1, 1, 0), (0, 0, 2)), False)
        self.assertIs(are_parted(RING, (2, 0, 0), (0, 0, 2)), True)

    def test_wrong_sums(self):
        near = [
            (1, 1), (1, 1, 1, 1), (), [1, 1, 1], (1, 1, True), (False, 1, 1), (1, None, 1), ("1", 1, 1), (1, 1, (1,)),
            {0: 1, 1: 1, 2: 1}, "111", (1, [1], 1), (1, {}, 1), 3, None, True, ((1, 1, 1),),
        ]
        for numbers in near + odd_values():
            with self.subTest(shown(numbers)):
                with self.assertRaises(BadSum):
                    keeps(FOLK, numbers)
                with self.assertRaises(BadFolk):
                    keeps(list(FOLK), numbers)


class TestParted(unittest.TestCase):
    def test_are_parted(self):
        for folk, crowd, other, told in (
            (FOLK, (2, 0, 0), (0, 1, 1), False), (FOLK, (2, 0, 0), (0, 2, 0), True), (FOLK, (0, 1, 1), (2, 0, 0), False),
            (FOLK, (2, 0, 0), (3, 0, 0), True), (FOLK, (0, 0, 0), (0, 0, 0), False), (FOLK, (0, 0, 0), (0, 0, 1), True),
            (MANY, (3, 0, 0), (1, 1, 1), False), (MANY, (3, 0, 0), (0, 0, 4), True), (("ab", ()), (1, 0), (0, 1), True),
            (OTHER, (5, 5, 3), (0, 10, 3), False), (OTHER, (5, 5, 3), (0, 9, 4), True),
        ):
            with self.subTest(folk=folk, crowd=crowd, other=other):
                self.assertIs(are_parted(folk, crowd, other), told)
                self.assertIs(are_parted(folk, other, crowd), told)

    def test_great_crowds(self):
        self.assertIs(are_parted(FOLK, (TOP, 0, 0), (0, TOP // 2, TOP // 2)), False)
        self.assertIs(are_parted(FOLK, (TOP, 0, 0), (1, TOP // 2, TOP // 2)), True)
        self.assertIs(are_parted(FOLK, (TOP, TOP, TOP), (TOP, TOP, TOP)), False)
        self.assertIs(are_parted(FOLK, (TOP, TOP, TOP), (TOP, TOP - 1, TOP)), True)
        self.assertIs(are_parted(FOLK, (TOP, 0, 0), (TOP - 2, 1, 1)), False)
        self.assertIs(are_parted(FOLK, (TOP, 0, 0), (TOP - 2, 2, 0)), True)

    def test_what_comes_of_a_crowd_is_never_parted_from_it(self):
        dice = random.Random(88)
        for folk in some_folk(200, 89):
            first = crowd = tuple(dice.randint(0, 4) for _ in folk[0])
            for _ in range(10):
                for rule in meetings(folk, crowd)[:1]:
                    crowd = met(folk, crowd, rule)
            self.assertIs(are_parted(folk, first, crowd), False)

    def test_against_whether_one_less_the_other_is_made_of_the_rules(self):
        dice = random.Random(90)
        told = []
        for folk in some_folk(400, 91):
            crowd, other = dice.choices(crowds(folk[0], 3), k=2)
            rows = changes_of(folk)
            parted = rank(rows + [[a - b for a, b in zip(crowd, other)]]) > rank(rows)
            self.assertIs(are_parted(folk, crowd, other), parted)
            told.append(parted)
        self.assertGreater(min(told.count(True), told.count(False)), 50)

    def test_the_order_of_the_errors(self):
        for value in odd_values() + [(1, 1), (1, 1, -1), (1, 1, TOP + 1), (1, 1, True), [1, 1, 1]]:
            with self.subTest(shown(value)):
                with self.assertRaises(BadFolk):
                    are_parted(("ba", ()), value, value)
                for crowd, other in ((value, (1, 1, 1)), ((1, 1, 1), value), (value, value)):
                    with self.assertRaises(BadCrowd):
                        are_parted(FOLK, crowd, other)

    def test_any_value_for_the_folk(self):
        for value in odd_values():
            for call in (kept, lambda folk: keeps(folk, (1, 1, 1)), lambda folk: are_parted(folk, (1, 1, 1), (1, 1, 1))):
                with self.assertRaises(BadFolk):
                    call(value)


if __name__ == "__main__":
    unittest.main()
