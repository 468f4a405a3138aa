"""[12] and [13]: choosers and lots."""

import itertools
import math
import random
import unittest
from fractions import Fraction

from meetfolk.choosing import chances, count_rows, expected, longest, longest_row, shortest
from meetfolk.ending import ends
from meetfolk.errors import BadCrowd, BadFolk, NeverRests, TooMany
from meetfolk.resting import always_rests
from tests.plain import all_behind, all_rows, crowds, one_ended_folk, outs, plain_ends, plain_lot
from tests.values import odd_values, shown, some_folk

MANY = ("abc", (("ab", "cc"), ("aa", "bc")))
ONE = ("ab", (("aa", "bb"),))
TWICE = ("abc", (("aa", "bb"), ("aa", "bc")))
SLOW = ("ab", (("aa", "bb"), ("aa", "ab"), ("ab", "bb")))
RING = ("abc", (("ab", "cc"), ("cc", "ab")))
# Six moods and twelve rules; this crowd of eight can come to 1234 crowds and meet up to 152 times.
LONG = ("abcdef", (
    ("ac", "dd"), ("ef", "bb"), ("be", "ef"), ("cd", "ef"), ("cf", "cc"), ("be", "df"), ("ad", "ae"), ("ff", "cf"),
    ("bd", "be"), ("bf", "ff"), ("bb", "ce"), ("df", "ef"),
))
LONG_CROWD = (5, 0, 1, 1, 0, 1)
TOP = 10 ** 40
ALL = (longest, shortest, longest_row, count_rows, chances, expected)


def some_crowds(many, seed):
    """Folk that always rest, with more than one end and with one, and a crowd of at most eight of them."""
    dice = random.Random(seed)
    resting = [folk for folk in some_folk(many, seed) if always_rests(folk)] + one_ended_folk(many // 4, seed)
    return [(folk, dice.choice(crowds(folk[0], dice.randint(0, 8)))) for folk in resting]


def few_rows(folk, crowd):
    """All rows to rest, None if there are more than 2000."""
    rows = list(itertools.islice(all_rows(folk, crowd), 2001))
    return rows if len(rows) <= 2000 else None


class TestAll(unittest.TestCase):
    def test_crowds_at_rest(self):
        for folk, crowd in ((ONE, (0, 0)), (ONE, (1, 7)), (MANY, (0, 4, 4)), (("a", ()), (8,)), (("abcdef", ()), (1,) * 6)):
            with self.subTest(folk=folk, crowd=crowd):
                self.assertEqual((longest(folk, crowd), shortest(folk, crowd), count_rows(folk, crowd)), (0, 0, 1))
                self.assertEqual(longest_row(folk, crowd), ())
                self.assertEqual(chances(folk, crowd), {crowd: (1, 1)})
                self.assertEqual(expected(folk, crowd), (0, 1))

    def test_more_than_eight_folk(self):
        for function in ALL:
            for crowd in ((9, 0), (0, 9), (1, 8), (TOP, 0), (TOP, TOP)):
                with self.subTest(function=function.__name__, crowd=crowd):
                    with self.assertRaises(TooMany) as raised:
                        function(ONE, crowd)
                    self.assertEqual(raised.exception.most, 8)

    def test_the_order_of_the_errors(self):
        wrong = [(9, 9), (9, 9, 9, 9), (9, 9, -1), (9, 9, True), (TOP + 1, 0, 0), [9, 9, 9]] + odd_values()
        for function in ALL:
            for crowd in wrong:
                with self.subTest(function=function.__name__, crowd=shown(crowd)):
                    with self.assertRaises(BadFolk):
                        function((RING[0], list(RING[1])), crowd)
                    with self.assertRaises(NeverRests):
                        function(RING, crowd)
                    with self.assertRaises(BadCrowd):
                        function(MANY, crowd)
            for crowd in ((9, 9, 9), (0, 0, 0)):
                with self.assertRaises(NeverRests):
                    function(RING, crowd)
            for value in odd_values():
                with self.assertRaises(BadFolk):
                    function(value, (1, 1, 1))

    def test_six_moods_twelve_rules_and_eight_folk(self):
        self.assertEqual(len(all_behind(LONG, LONG_CROWD)), 1234)
        self.assertEqual(longest(LONG, LONG_CROWD), 152)
        self.assertEqual(len(longest_row(LONG, LONG_CROWD)), 152)
        self.assertGreater(count_rows(LONG, LONG_CROWD), 10 ** 50)
        told, mean = plain_lot(LONG, LONG_CROWD)
        self.assertEqual({last: Fraction(*share) for last, share in chances(LONG, LONG_CROWD).items()}, dict(told))
        self.assertEqual(Fraction(*expected(LONG, LONG_CROWD)), mean)


class TestChoosers(unittest.TestCase):
    def check_rows(self, folk, crowd, rows):
        many = [len(row) for row in rows]
        orders = [[folk[1].index(rule) for rule in row] for row in rows if len(row) == max(many)]
        self.assertEqual(longest(folk, crowd), max(many))
        self.assertEqual(shortest(folk, crowd), min(many))
        self.assertEqual(count_rows(folk, crowd), len(set(rows)))
        self.assertEqual(longest_row(folk, crowd), tuple(folk[1][at] for at in min(orders)))
        self.assertIs(type(longest_row(folk, crowd)), tuple)

    def test_the_most_and_the_fewest(self):
        for folk, crowd, most, fewest, rows in (
            (MANY, (3, 0, 0), 2, 2, 1), (MANY, (2, 1, 0), 1, 1, 2), (ONE, (8, 0), 4, 4, 1), (ONE, (2, 6), 1, 1, 1),
            (TWICE, (4, 0, 0), 2, 2, 4), (TWICE, (8, 0, 0), 4, 4, 16), (SLOW, (2, 0), 2, 1, 2), (SLOW, (3, 0), 3, 2, 4),
        ):
            with self.subTest(folk=folk, crowd=crowd):
                self.assertEqual((longest(folk, crowd), shortest(folk, crowd), count_rows(folk, crowd)), (most, fewest, rows))

    def test_rows_of_unlike_rules_to_the_same_crowds_are_unlike(self):
        # Both rules take an a and bring a b.
        folk = ("ab", (("ab", "bb"), ("aa", "ab")))
        self.assertEqual(count_rows(folk, (2, 1)), 2)
        self.assertEqual(count_rows(folk, (3, 1)), 4)
        self.assertEqual(longest_row(folk, (3, 1)), (("ab", "bb"),) * 3)

    def test_the_longest_row_is_the_least_of_the_longest_ones(self):
        bb, bc = TWICE[1]
        self.assertEqual(longest_row(TWICE, (4, 0, 0)), (bb, bb))
        self.assertEqual(longest_row(("abc", (bc, bb)), (4, 0, 0)), (bc, bc))
        # The first rule of the folk can be used, but no longest row begins with it.
        self.assertEqual(longest_row(SLOW, (2, 0)), (("aa", "ab"), ("ab", "bb")))
        self.assertEqual(longest_row(SLOW, (3, 0)), (("aa", "ab"), ("aa", "ab"), ("ab", "bb")))
        turned = ("ab", (("ab", "bb"), ("aa", "ab"), ("aa", "bb")))
        self.assertEqual(longest_row(turned, (3, 0)), (("aa", "ab"), ("ab", "bb"), ("ab", "bb")))
        self.assertEqual(longest_row(MANY, (4, 4, 0)), (("ab", "cc"),) * 4)

    def test_the_rules_in_any_order(self):
        for rules in itertools.permutations((("aa", "bc"), ("ab", "cc"), ("bb", "cc"), ("ac", "cc"))):
            for crowd in ((3, 0, 0), (2, 2, 0), (4, 1, 1)):
                self.check_rows(("abc", rules), crowd, few_rows(("abc", rules), crowd))

    def test_against_all_rows(self):
        done, eight = 0, 0
        for folk, crowd in some_crowds(500, 102):
            rows = few_rows(folk, crowd)
            if rows is not None:
                done += len(rows) > 1
                eight += len(rows) > 1 and sum(crowd) == 8
                self.check_rows(folk, crowd, rows)
        self.assertGreater(done, 80)
        self.assertGreater(eight, 5)

    def test_crowds_with_too_many_rows_to_tell_them(self):
        for folk, crowd in some_crowds(80, 103):
            most, fewest, rows = {}, {}, {}
            # A crowd comes behind all those that it can come to, as these can come to fewer.
            for here in sorted(all_behind(folk, crowd), key=lambda one: len(all_behind(folk, one))):
                behind = [last for _, last in outs(folk, here)]
                most[here] = max((1 + most[last] for last in behind), default=0)
                fewest[here] = min((1 + fewest[last] for last in behind), default=0)
                rows[here] = sum(rows[last] for last in behind) if behind else 1
            told = longest(folk, crowd), shortest(folk, crowd), count_rows(folk, crowd)
            self.assertEqual(told, (most[crowd], fewest[crowd], rows[crowd]))


class TestLots(unittest.TestCase):
    def check_shares(self, shares):
        for share in shares:
            self.assertEqual((type(share), len(share)), (tuple, 2))
            self.assertTrue(all(type(number) is int for number in share))
            self.assertGreater(share[1], 0)
            self.assertEqual(math.gcd(*share), 1)

    def test_single_lots(self):
        self.assertEqual(chances(MANY, (2, 1, 0)), {(1, 0, 2): (2, 3), (0, 2, 1): (1, 3)})
        self.assertEqual(expected(MANY, (2, 1, 0)), (1, 1))
        self.assertEqual(expected(MANY, (3, 0, 0)), (2, 1))
        self.assertEqual(chances(ONE, (7, 1)), {(1, 7): (1, 1)})
        self.assertEqual(expected(ONE, (8, 0)), (4, 1))
        self.assertEqual(expected(SLOW, (2, 0)), (3, 2))

    def test_three_in_a_mood_are_three_pairs(self):
        folk = ("abc", (("aa", "bb"), ("ac", "cc")))
        # Three pairs aa and three pairs ac; then, behind a use of the second rule, one of five pairs is aa.
        self.assertEqual(chances(folk, (3, 0, 1)), {(0, 2, 2): (3, 5), (0, 0, 4): (2, 5)})
        self.assertEqual(expected(folk, (3, 0, 1)), (12, 5))
        # One pair aa and two pairs ab.
        folk = ("abc", (("aa", "cc"), ("ab", "bb")))
        self.assertEqual(chances(folk, (2, 1, 0)), {(0, 1, 2): (1, 3), (0, 3, 0): (2, 3)})
        self.assertEqual(expected(folk, (2, 1, 0)), (5, 3))

    def test_two_rules_of_one_pair_are_alike_likely(self):
        folk = ("abc", (("aa", "bb"), ("aa", "cc")))
        self.assertEqual(chances(folk, (2, 0, 0)), {(0, 2, 0): (1, 2), (0, 0, 2): (1, 2)})
        self.assertEqual(chances(folk, (4, 0, 0)), {(0, 4, 0): (1, 4), (0, 2, 2): (1, 2), (0, 0, 4): (1, 4)})
        # One pair aa, which has two rules, and two pairs ab, which have one.
        folk = ("abcd", (("aa", "cc"), ("ab", "dd"), ("aa", "dd")))
        self.assertEqual(chances(folk, (2, 1, 0, 0)), {(0, 1, 2, 0): (1, 6), (0, 1, 0, 2): (1, 6), (1, 0, 0, 2): (2, 3)})

    def test_pairs_without_a_rule_do_not_count(self):
        folk = ("abcd", (("aa", "bc"), ("ab", "cc")))
        self.assertEqual(chances(folk, (2, 1, 0, 5)), {(1, 0, 2, 5): (2, 3), (0, 2, 1, 5): (1, 3)})
        self.assertEqual(expected(folk, (2, 1, 0, 5)), (1, 1))

    def test_the_shares_do_not_depend_on_the_order_of_the_rules(self):
        for folk, crowd in some_crowds(60, 111):
            turned = (folk[0], folk[1][::-1])
            self.assertEqual(chances(folk, crowd), chances(turned, crowd))
            self.assertEqual(expected(folk, crowd), expected(turned, crowd))

    def test_against_each_pair_by_itself(self):
        many, eight = 0, 0
        for folk, crowd in some_crowds(600, 112):
            told, mean = plain_lot(folk, crowd)
            found = chances(folk, crowd)
            self.assertIs(type(found), dict)
            self.check_shares(list(found.values()) + [expected(folk, crowd)])
            self.assertEqual({last: Fraction(*share) for last, share in found.items()}, dict(told))
            self.assertEqual(sum(Fraction(*share) for share in found.values()), 1)
            self.assertEqual(set(found), plain_ends(folk, crowd))
            self.assertEqual(sorted(found), sorted(ends(folk, crowd)))
            self.assertEqual(Fraction(*expected(folk, crowd)), mean)
            self.assertTrue(shortest(folk, crowd) <= mean <= longest(folk, crowd))
            many += len(found) > 1
            eight += len(found) > 1 and sum(crowd) == 8
        self.assertGreater(many, 40)
        self.assertGreater(eight, 5)


if __name__ == "__main__":
    unittest.main()
