"""[8]: leaps, and the end of a crowd."""

import random
import unittest

from meetfolk.crowds import is_at_rest, met_all
from meetfolk.ending import end, ends, leaps
from meetfolk.errors import BadCrowd, BadFolk, ManyEnds, NeverRests, TooGreat, TooMany
from tests.plain import crowds, one_ended_folk, plain_leaps
from tests.values import odd_values, shown

ONE = ("ab", (("aa", "bb"),))
MANY = ("abc", (("ab", "cc"), ("aa", "bc")))
RING = ("abc", (("ab", "cc"), ("cc", "ab")))
# One folk in t or u turns each a to b and then to c, two leaps for each a.
WORKER = ("abctu", (("at", "bu"), ("bu", "ct")))
TOP = 10 ** 40


class TestLeaps(unittest.TestCase):
    def assert_leaps(self, folk, crowd, told, last):
        self.assertEqual(leaps(folk, crowd), told)
        self.assertEqual(end(folk, crowd), last)
        self.assertEqual((type(leaps(folk, crowd)), type(end(folk, crowd))), (tuple, tuple))

    def test_crowds_at_rest(self):
        for folk, crowd in ((ONE, (0, 0)), (ONE, (1, 0)), (ONE, (1, TOP)), (("a", ()), (TOP,)), (WORKER, (5, 0, 7, 0, 1))):
            self.assert_leaps(folk, crowd, (), crowd)

    def test_leaps_of_one_use_and_of_many(self):
        rule = ONE[1][0]
        for many in range(2, 20):
            self.assert_leaps(ONE, (many, 3), ((rule, many // 2),), (many % 2, 3 + many - many % 2))
        self.assert_leaps(WORKER, (2, 0, 0, 1, 0), (
            (("at", "bu"), 1), (("bu", "ct"), 1), (("at", "bu"), 1), (("bu", "ct"), 1),
        ), (0, 0, 2, 1, 0))
        self.assert_leaps(WORKER, (9, 2, 0, 4, 0), (
            (("at", "bu"), 4), (("bu", "ct"), 4), (("at", "bu"), 4), (("bu", "ct"), 4), (("at", "bu"), 1), (("bu", "ct"), 1),
        ), (0, 2, 9, 4, 0))

    def test_two_unlike_moods_are_used_up_to_the_fewer(self):
        folk, rule = ("abc", (("ab", "cc"),)), ("ab", "cc")
        for one in range(1, 6):
            for two in range(1, 6):
                fewer = min(one, two)
                self.assert_leaps(folk, (one, two, 1), ((rule, fewer),), (one - fewer, two - fewer, 1 + 2 * fewer))

    def test_rules_that_give_back_one_of_their_own(self):
        for many in (2, 3, 4, 7, 8, 10 ** 30, TOP):
            self.assert_leaps(("ab", (("aa", "ab"),)), (many, 0), ((("aa", "ab"), many - 1),), (1, many - 1))
            self.assert_leaps(("ab", (("bb", "ab"),)), (0, many), ((("bb", "ab"), many - 1),), (many - 1, 1))
        for many in (1, 2, 3, 8, 10 ** 30, TOP - 1):
            self.assert_leaps(("ab", (("ab", "bb"),)), (many, 1), ((("ab", "bb"), many),), (0, many + 1))
            self.assert_leaps(("ab", (("ab", "aa"),)), (1, many), ((("ab", "aa"), many),), (many + 1, 0))
            self.assert_leaps(("abc", (("ab", "bc"),)), (many, 1, 0), ((("ab", "bc"), many),), (0, 1, many))
            self.assert_leaps(("abc", (("ab", "ac"),)), (1, many, 0), ((("ab", "ac"), many),), (1, 0, many))
            self.assert_leaps(("abc", (("bc", "ab"),)), (0, 1, many), ((("bc", "ab"), many),), (many, 1, 0))

    def test_the_first_rule_of_the_folk_is_used(self):
        rules = (("aa", "ab"), ("ab", "bb"), ("aa", "bb"))
        self.assert_leaps(("ab", rules), (4, 0), ((("aa", "ab"), 3), (("ab", "bb"), 1)), (0, 4))
        self.assert_leaps(("ab", rules[1:] + rules[:1]), (4, 0), ((("aa", "bb"), 2),), (0, 4))
        self.assert_leaps(("ab", rules[1:] + rules[:1]), (4, 1), ((("ab", "bb"), 4),), (0, 5))
        self.assert_leaps(("ab", rules[2:] + rules[:2]), (5, 0), ((("aa", "bb"), 2), (("ab", "bb"), 1)), (0, 5))

    def test_great_crowds(self):
        self.assert_leaps(ONE, (10 ** 30, 0), ((("aa", "bb"), 5 * 10 ** 29),), (0, 10 ** 30))
        self.assert_leaps(ONE, (TOP - 1, 1), ((("aa", "bb"), TOP // 2 - 1),), (1, TOP - 1))
        self.assert_leaps(("abc", (("aa", "bc"),)), (TOP, 5, 6), ((("aa", "bc"), TOP // 2),), (0, TOP // 2 + 5, TOP // 2 + 6))
        chain = ("abcdef", (("aa", "bf"), ("bb", "cf"), ("cc", "df"), ("dd", "ef"), ("ee", "ff")))
        self.assertEqual(end(chain, (32 * 10 ** 30, 0, 0, 0, 0, 0)), (0, 0, 0, 0, 0, 32 * 10 ** 30))
        self.assertEqual(end(chain, (31, 0, 0, 0, 0, 10 ** 30)), (1, 1, 1, 1, 1, 10 ** 30 + 26))

    def test_exactly_5000_leaps_and_more(self):
        for crowd, many in (((2500, 0, 0, 1, 0), 5000), ((2499, 1, 0, 0, 1), 4999), ((10 ** 30, 0, 0, 4 * 10 ** 26, 0), 5000)):
            self.assertEqual(len(leaps(WORKER, crowd)), many)
            self.assertEqual(end(WORKER, crowd), (0, 0, crowd[0] + crowd[1], crowd[3] + crowd[4], 0))
        for crowd in ((2501, 0, 0, 1, 0), (2500, 1, 0, 0, 1), (10 ** 30, 0, 0, 1, 0), (10 ** 30 + 1, 0, 0, 4 * 10 ** 26, 0)):
            for function in (leaps, end):
                with self.subTest(function=function.__name__, crowd=crowd):
                    with self.assertRaises(TooMany) as raised:
                        function(WORKER, crowd)
                    self.assertEqual(raised.exception.most, 5000)

    def test_too_great_at_the_end(self):
        for crowd, fits in (((2, TOP - 2), True), ((3, TOP - 2), True), ((2, TOP - 1), False), ((4, TOP - 3), False),
                            ((TOP, 0), True), ((TOP, 1), False), ((TOP, TOP), False), ((1, TOP), True)):
            for function in (leaps, end):
                with self.subTest(function=function.__name__, crowd=crowd):
                    if fits:
                        self.assertIsInstance(function(ONE, crowd), tuple)
                    else:
                        with self.assertRaises(TooGreat):
                            function(ONE, crowd)

    def test_too_great_on_the_way(self):
        folk = ("abcd", (("aa", "bb"), ("bb", "cd")))
        self.assertEqual(end(folk, (0, TOP, 0, 0)), (0, 0, TOP // 2, TOP // 2))
        self.assertEqual(end(folk, (TOP - 2, 2, 0, 0)), (0, 0, TOP // 2, TOP // 2))
        # Behind the second leap no mood would have more than 10 ** 40, but behind the first one b has.
        for crowd in ((TOP, 2, 0, 0), (2, TOP, 0, 0), (TOP, TOP, 0, 0), (4, TOP - 2, 5, 5)):
            for function in (leaps, end):
                with self.assertRaises(TooGreat):
                    function(folk, crowd)
        # With the rules turned about the b of the beginning go first.
        folk = ("abcd", folk[1][::-1])
        self.assertEqual(end(folk, (2, TOP, 0, 0)), (0, 0, TOP // 2 + 1, TOP // 2 + 1))
        self.assertEqual(end(folk, (TOP, TOP, 0, 0)), (0, 0, TOP, TOP))

    def test_many_leaps_or_a_mood_too_great_whichever_comes_first(self):
        for function in (leaps, end):
            with self.assertRaises(TooGreat):
                function(WORKER, (TOP, 0, TOP - 2499, 1, 0))
            with self.assertRaises(TooMany):
                function(WORKER, (TOP, 0, TOP - 2500, 1, 0))

    def test_the_order_of_the_errors(self):
        wrong = [(1, 1), (1, 1, 1, 1), (1, 1, -1), (1, 1, True), (TOP + 1, 0, 0), [1, 1, 1], None, "abc", (1, 1, 1)]
        for function in (leaps, end):
            for crowd in wrong + odd_values():
                with self.subTest(function=function.__name__, crowd=shown(crowd)):
                    with self.assertRaises(BadFolk):
                        function(("cba", MANY[1]), crowd)
                    with self.assertRaises(NeverRests):
                        function(RING, crowd)
                    with self.assertRaises(ManyEnds):
                        function(MANY, crowd)
            for crowd in wrong[:-1] + odd_values():
                with self.subTest(function=function.__name__, crowd=shown(crowd)):
                    with self.assertRaises(BadCrowd):
                        function(("abc", (("ab", "cc"),)), crowd)

    def test_folk_that_neither_rest_nor_have_one_end(self):
        with self.assertRaises(NeverRests):
            end(("abc", RING[1] + (("aa", "bb"), ("aa", "cc"))), (0, 0, 0))

    def test_more_than_eight_folk_are_not_too_many(self):
        self.assertEqual(end(ONE, (9, 0)), (1, 8))

    def test_against_single_uses_and_ends(self):
        dice = random.Random(61)
        for folk in one_ended_folk(250, 62):
            few = dice.choice(crowds(folk[0], dice.randint(0, 8)))
            self.assertEqual((end(folk, few),), ends(folk, few))
            for crowd in (few, tuple(dice.randint(0, 9) for _ in folk[0])):
                told, last = plain_leaps(folk, crowd)
                self.assert_leaps(folk, crowd, told, last)
                row = tuple(rule for rule, times in told for _ in range(times))
                self.assertEqual(met_all(folk, crowd, row), last)
                self.assertIs(is_at_rest(folk, last), True)

    def test_the_end_does_not_depend_on_the_order_of_the_rules(self):
        dice = random.Random(63)
        for moods, rules in one_ended_folk(150, 64):
            crowd = tuple(dice.choice((0, 1, dice.randint(0, 10 ** 4), dice.randint(0, 10 ** 30))) for _ in moods)
            found = []
            for _ in range(3):
                try:
                    found.append(end((moods, tuple(dice.sample(rules, len(rules)))), crowd))
                except TooMany:
                    pass
            self.assertLessEqual(len(set(found)), 1)
            for last in found:
                self.assertIs(is_at_rest((moods, rules), last), True)


if __name__ == "__main__":
    unittest.main()
