"""[9]: rays."""

import random
import unittest

from meetfolk.ending import end
from meetfolk.errors import BadCrowd, BadFolk, BadNumber, FolkError, ManyEnds, NeverRests, NoRay, TooGreat, TooMany
from meetfolk.rays import on_ray, ray
from tests.plain import one_ended_folk
from tests.values import odd_values, shown

ONE = ("ab", (("aa", "bb"),))
MANY = ("abc", (("ab", "cc"), ("aa", "bc")))
RING = ("abc", (("ab", "cc"), ("cc", "ab")))
MEET = ("abc", (("ab", "cc"),))
WORKER = ("abctu", (("at", "bu"), ("bu", "ct")))
CHAIN = ("abcdef", (("aa", "bf"), ("bb", "cf"), ("cc", "df"), ("dd", "ef"), ("ee", "ff")))
REST = ("ab", ())
TURNS = ("abcd", (("aa", "bb"), ("bc", "bd")))
TOP = 10 ** 40


def plus(crowd, step, times=1):
    return tuple(many + times * more for many, more in zip(crowd, step))


def plain_e(folk, crowd, step, many):
    """The e(k) for k from 0 to many, one by one."""
    found = [end(folk, crowd)]
    while len(found) <= many:
        found.append(end(folk, plus(found[-1], step)))
    return found


def stays_at_rest(folk, crowd, gains):
    """Whether each rule lacks one of its two folk, with 0 to 5 times the gains more."""
    for times in range(6):
        there = dict(zip(folk[0], plus(crowd, gains, times)))
        if any(all(there[mood] >= rule[0].count(mood) for mood in rule[0]) for rule in folk[1]):
            return False
    return True


def plain_ray(folk, found):
    """The pair (p, q) that [9] asks for, None if there is none."""
    pairs = [(p, q) for p in range(40) for q in range(1, 41 - p)]
    for p, q in sorted(pairs, key=lambda pair: (sum(pair), pair[1])):
        gains = plus(found[p + q], found[p], -1)
        if min(gains) >= 0 and all(stays_at_rest(folk, last, gains) for last in found[p:p + q]):
            return p, q
    return None


def some_calls(many, seed):
    """Folk with a crowd and a step of theirs."""
    dice = random.Random(seed)
    made = []
    for folk in one_ended_folk(many, seed) + [ONE, MEET, WORKER, CHAIN, TURNS] * 12:
        crowd = tuple(dice.choice((0, 1, dice.randint(0, 30), dice.randint(0, 2000))) for _ in folk[0])
        step = tuple(dice.choice((0, 0, 1, 1, 2, 5)) for _ in folk[0])
        if folk[1]:
            made.append((folk, crowd, step))
    return made


class TestRay(unittest.TestCase):
    def assert_ray(self, folk, crowd, step, told):
        found = ray(folk, crowd, step)
        self.assertEqual(found, told)
        self.assertEqual((type(found), type(found[2])), (tuple, tuple))

    def test_p_of_none(self):
        self.assert_ray(ONE, (0, 0), (1, 0), (0, 2, (0, 2)))
        self.assert_ray(ONE, (1, 7), (1, 0), (0, 2, (0, 2)))
        self.assert_ray(ONE, (1, 0), (0, 3), (0, 1, (0, 3)))
        self.assert_ray(ONE, (5, 5), (2, 0), (0, 1, (0, 2)))
        self.assert_ray(REST, (0, 0), (3, 4), (0, 1, (3, 4)))
        self.assert_ray(("a", ()), (TOP - 40,), (1,), (0, 1, (1,)))

    def test_a_step_of_no_folk(self):
        for folk, crowd in ((ONE, (7, 0)), (MEET, (3, 2, 1)), (REST, (TOP, 0)), (CHAIN, (100, 0, 0, 0, 0, 0))):
            none = (0,) * len(crowd)
            self.assert_ray(folk, crowd, none, (0, 1, none))
            self.assertEqual(on_ray(folk, crowd, none, 10 ** 30), end(folk, crowd))

    def test_p_above_none(self):
        for many in (1, 2, 5, 39):
            self.assert_ray(MEET, (0, many, 3), (1, 0, 0), (many, 1, (1, 0, 0)))
        self.assert_ray(MEET, (0, 7, 0), (2, 0, 0), (4, 1, (2, 0, 0)))
        self.assert_ray(MEET, (0, 9, 0), (3, 1, 0), (5, 1, (2, 0, 2)))
        self.assert_ray(MEET, (5, 0, 0), (0, 1, 1), (5, 1, (0, 1, 1)))

    def test_q_above_one(self):
        none = (0, 0, 0, 0, 0, 0)
        for many, q in ((1, 32), (2, 16), (3, 32), (4, 8), (8, 4), (16, 2), (32, 1), (48, 2)):
            self.assert_ray(CHAIN, none, (many, 0, 0, 0, 0, 0), (0, q, (0, 0, 0, 0, 0, q * many)))
        self.assert_ray(CHAIN, none, (0, 1, 0, 0, 0, 1), (0, 16, (0, 0, 0, 0, 0, 32)))

    def test_p_above_none_and_q_above_one(self):
        self.assert_ray(TURNS, (0, 0, 2, 0), (1, 0, 1, 0), (2, 2, (0, 2, 0, 2)))
        folk = ("abcd", (("aa", "dd"), ("bc", "cc")))
        self.assert_ray(folk, (0, 3, 0, 0), (1, 0, 1, 0), (1, 2, (0, 0, 2, 2)))

    def test_gains_that_are_below_none_are_no_ray(self):
        # Until the b are gone, each e(k) has one b less than the one ahead of it.
        self.assert_ray(MEET, (0, 39, 0), (1, 0, 0), (39, 1, (1, 0, 0)))
        for many in (40, 41, 100, 10 ** 30):
            with self.assertRaises(NoRay):
                ray(MEET, (0, many, 0), (1, 0, 0))
            for k in (0, 1, 39, 10 ** 30):
                with self.assertRaises(NoRay):
                    on_ray(MEET, (0, many, 0), (1, 0, 0), k)

    def test_an_end_that_would_not_stay_at_rest_is_no_ray(self):
        # The a of the crowd is at rest, but not with a second one: e(0) to e(1) gains, yet that doesn't go on.
        self.assert_ray(ONE, (0, 0), (1, 1), (0, 2, (0, 4)))
        folk = ("abc", (("aa", "bb"), ("bb", "bc")))
        self.assert_ray(folk, (0, 0, 0), (1, 0, 0), (2, 2, (0, 0, 2)))
        self.assert_ray(("abc", (("ab", "ac"),)), (1, 0, 0), (0, 1, 0), (0, 1, (0, 0, 1)))
        # One b turns all the a that are there, so e(1) has fewer of them than e(0).
        self.assert_ray(("abc", (("ab", "bc"),)), (3, 0, 0), (0, 1, 0), (1, 1, (0, 1, 0)))

    def test_folk_without_a_ray_within_40(self):
        for crowd, step in (((0, 41, 0), (1, 0, 1)), ((10 ** 30, 0, 0), (3, 20, 0)), ((81, 1, 0), (1, 3, 0))):
            with self.assertRaises(NoRay):
                ray(MEET, crowd, step)

    def test_against_all_pairs(self):
        told, none = [], 0
        for folk, crowd, step in some_calls(300, 71):
            found = plain_e(folk, crowd, step, 40)
            pair = plain_ray(folk, found)
            if pair is None:
                none += 1
                with self.assertRaises(NoRay):
                    ray(folk, crowd, step)
            else:
                p, q = pair
                self.assert_ray(folk, crowd, step, (p, q, plus(found[p + q], found[p], -1)))
                told.append(pair)
        self.assertGreater(none, 2)
        self.assertGreater(len([q for p, q in told if q > 1]), 40)
        self.assertGreater(len([p for p, q in told if p > 0]), 30)
        self.assertGreater(len([p for p, q in told if p > 0 and q > 1]), 1)

    def test_too_great_and_too_many_leaps(self):
        # All e(k) up to 40 are asked for, also where the first ones already tell the ray.
        self.assert_ray(REST, (TOP - 40, 5), (1, 0), (0, 1, (1, 0)))
        for folk, crowd, step in (
            (REST, (TOP - 39, 5), (1, 0)), (REST, (TOP, 5), (1, 0)), (REST, (0, 0), (TOP // 40 + 1, 0)),
            (ONE, (2, TOP - 1), (0, 0)), (ONE, (0, TOP - 10), (1, 0)), (REST, (5, 5), (TOP, TOP)),
            # The step brings one too many, though the meetings would take most of them away.
            (("abc", (("aa", "bc"),)), (1, 0, 0), (TOP, 0, 0)),
        ):
            for function, more in ((ray, ()), (on_ray, (0,)), (on_ray, (10 ** 30,))):
                with self.subTest(function=function.__name__, crowd=crowd, step=step):
                    with self.assertRaises(TooGreat):
                        function(folk, crowd, step, *more)
        for crowd, step in (((2501, 0, 0, 1, 0), (0, 0, 0, 0, 0)), ((0, 0, 0, 1, 0), (2501, 0, 0, 0, 0)),
                            ((2501, 0, 0, 0, 0), (0, 0, 0, 1, 0))):
            for function, more in ((ray, ()), (on_ray, (0,))):
                with self.subTest(function=function.__name__, crowd=crowd, step=step):
                    with self.assertRaises(TooMany) as raised:
                        function(WORKER, crowd, step, *more)
                    self.assertEqual(raised.exception.most, 5000)
        self.assert_ray(WORKER, (0, 0, 0, 1, 0), (2500, 0, 0, 0, 0), (0, 1, (0, 0, 2500, 0, 0)))

    def test_each_end_is_reckoned_from_the_one_ahead_of_it(self):
        # From the crowd with 40 steps at once there would be far more than 5000 leaps.
        self.assert_ray(WORKER, (0, 0, 0, 1, 0), (1000, 0, 0, 0, 0), (0, 1, (0, 0, 1000, 0, 0)))
        with self.assertRaises(TooMany):
            end(WORKER, (40000, 0, 0, 1, 0))
        self.assertEqual(on_ray(WORKER, (0, 0, 0, 1, 0), (1000, 0, 0, 0, 0), 40), (0, 0, 40000, 1, 0))


class TestOnRay(unittest.TestCase):
    def test_against_ends_one_by_one(self):
        many = 0
        for folk, crowd, step in some_calls(120, 72):
            try:
                ray(folk, crowd, step)
            except NoRay:
                continue
            many += 1
            found = plain_e(folk, crowd, step, 90)
            for k, last in enumerate(found):
                self.assertEqual(on_ray(folk, crowd, step, k), last)
        self.assertGreater(many, 80)

    def test_the_end_of_all_steps_at_once(self):
        for folk, crowd, step in some_calls(120, 73):
            for k in (0, 41, 1000, 10 ** 20 + 7, 10 ** 30):
                try:
                    told = on_ray(folk, crowd, step, k), end(folk, plus(crowd, step, k))
                except (NoRay, TooMany):
                    continue
                self.assertEqual(*told)

    def test_great_k(self):
        last = on_ray(ONE, (0, 0), (1, 0), 10 ** 20 + 1)
        self.assertEqual(last, (1, 10 ** 20))
        self.assertIs(type(last), tuple)
        self.assertEqual(on_ray(ONE, (0, 0), (1, 0), 10 ** 30), (0, 10 ** 30))
        self.assertEqual(on_ray(ONE, (1, 4), (3, 0), 10 ** 30 - 1), (0, 3 * 10 ** 30 + 2))
        self.assertEqual(on_ray(MEET, (0, 7, 0), (2, 0, 0), 10 ** 30), (2 * 10 ** 30 - 7, 0, 14))

    def test_numbers_that_are_none(self):
        for k in [10 ** 30 + 1, 10 ** 31, 10 ** 40, 10 ** 5000, -1, -(10 ** 30), True, False, None, "1", (1,), [1], {}, "", ()]:
            with self.subTest(shown(k)):
                with self.assertRaises(BadNumber):
                    on_ray(ONE, (0, 0), (1, 0), k)

    def test_too_great(self):
        step = 10 ** 10
        self.assertEqual(on_ray(REST, (0, 5), (step, 0), 10 ** 30), (TOP, 5))
        for crowd, steps, k in (((1, 5), (step, 0), 10 ** 30), ((0, 5), (step + 1, 0), 10 ** 30), ((0, 5), (0, TOP // 50), 51)):
            with self.assertRaises(TooGreat):
                on_ray(REST, crowd, steps, k)
        self.assertEqual(on_ray(REST, (0, 0), (0, TOP // 50), 50), (0, TOP))
        self.assertEqual(on_ray(ONE, (0, 1), (2 * step, 0), 10 ** 30 // 2 - 1), (0, TOP - 2 * step + 1))
        with self.assertRaises(TooGreat):
            on_ray(ONE, (0, 1), (2 * step, 0), 10 ** 30 // 2)

    def test_the_order_of_the_errors(self):
        no_ray, wrong, bad = (0, 40, 0), (0, 40), -1
        for crowd in (no_ray, wrong):
            for step in ((1, 0, 0), (1, True, 0)):
                for function, more in ((ray, ()), (on_ray, (bad,)), (on_ray, (3,))):
                    with self.subTest(function=function.__name__, crowd=crowd, step=step):
                        with self.assertRaises(BadFolk):
                            function(["abc", MEET[1]], crowd, step, *more)
                        with self.assertRaises(NeverRests):
                            function(RING, crowd, step, *more)
                        with self.assertRaises(ManyEnds):
                            function(MANY, crowd, step, *more)
                        if crowd == wrong or step != (1, 0, 0):
                            with self.assertRaises(BadCrowd):
                                function(MEET, crowd, step, *more)
                        else:
                            with self.assertRaises(BadNumber if more == (bad,) else NoRay):
                                function(MEET, crowd, step, *more)
        with self.assertRaises(BadNumber):
            on_ray(REST, (TOP, TOP), (1, 1), 10 ** 30 + 1)
        with self.assertRaises(BadNumber):
            on_ray(WORKER, (2501, 0, 0, 1, 0), (0, 0, 0, 0, 0), True)

    def test_wrong_crowds_and_steps(self):
        for value in odd_values() + [(1, 1), (1, 1, 1, 1), (0, 0, -1), (0, 0, TOP + 1), [0, 0, 0], (0, True, 0)]:
            for function, more in ((ray, ()), (on_ray, (3,))):
                for crowd, step in ((value, (1, 0, 0)), ((1, 0, 0), value), (value, value)):
                    with self.subTest(function=function.__name__, value=shown(value)):
                        with self.assertRaises(BadCrowd):
                            function(MEET, crowd, step, *more)

    def test_all_errors_are_folk_errors(self):
        for error in (NoRay, BadNumber, TooGreat, TooMany):
            self.assertTrue(issubclass(error, FolkError))


if __name__ == "__main__":
    unittest.main()
