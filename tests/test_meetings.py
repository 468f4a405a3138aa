"""[3]: meetings."""

import random
import unittest

from meetfolk.crowds import is_at_rest, meetings, met, met_all
from meetfolk.errors import BadCrowd, BadFolk, BadRow, BadRule, TooGreat
from tests.values import all_rules, odd_values, shown, some_folk

FOLK = ("abc", (("ab", "cc"), ("aa", "bc")))
RING = ("abc", (("ab", "cc"), ("cc", "ab")))
TOP = 10 ** 40


def letters(moods, crowd):
    """The crowd, as the list of the moods of each of its folk."""
    return [mood for mood, many in zip(moods, crowd) for _ in range(many)]


def turned(moods, crowd, rule):
    """The crowd behind a rule by taking folk out and putting folk in one by one; None if they are not there."""
    there = letters(moods, crowd)
    for mood in rule[0]:
        if mood not in there:
            return None
        there.remove(mood)
    there.extend(rule[1])
    return tuple(there.count(mood) for mood in moods)


class TestMeetings(unittest.TestCase):
    def test_two_unlike_moods(self):
        rule = ("ab", "cc")
        folk = ("abc", (rule,))
        for crowd, used in (((1, 1, 0), True), ((1, 0, 5), False), ((0, 1, 5), False), ((2, 0, 0), False), ((3, 4, 5), True)):
            with self.subTest(crowd):
                self.assertEqual(meetings(folk, crowd), (rule,) if used else ())
                self.assertIs(is_at_rest(folk, crowd), not used)
        self.assertEqual(met(folk, (3, 4, 5), rule), (2, 3, 7))

    def test_one_mood_twice_needs_two(self):
        rule = ("bb", "ac")
        folk = ("abc", (rule,))
        for many, used in ((0, False), (1, False), (2, True), (3, True), (TOP, True)):
            with self.subTest(many):
                self.assertEqual(meetings(folk, (1, many, 1)), (rule,) if used else ())
                self.assertIs(is_at_rest(folk, (1, many, 1)), not used)
        self.assertEqual(met(folk, (1, 2, 1), rule), (2, 0, 2))
        with self.assertRaises(BadRule):
            met(folk, (1, 1, 1), rule)

    def test_moods_that_stay(self):
        folk = ("abc", (("ab", "ac"), ("aa", "ab"), ("bc", "cc")))
        self.assertEqual(met(folk, (1, 1, 0), ("ab", "ac")), (1, 0, 1))
        self.assertEqual(met(folk, (2, 0, 0), ("aa", "ab")), (1, 1, 0))
        self.assertEqual(met(folk, (0, 1, 1), ("bc", "cc")), (0, 0, 2))
        with self.assertRaises(BadRule):
            met(folk, (1, 0, 0), ("aa", "ab"))
        with self.assertRaises(BadRule):
            met(folk, (0, 1, 1), ("ab", "ac"))

    def test_the_order_is_the_folks(self):
        rules = all_rules("abc")[:12]
        for seed in range(5):
            random.Random(seed).shuffle(rules)
            self.assertEqual(meetings(("abc", tuple(rules)), (2, 2, 2)), tuple(rules))

    def test_no_rules(self):
        self.assertEqual(meetings(("ab", ()), (5, 5)), ())
        self.assertIs(is_at_rest(("ab", ()), (TOP, TOP)), True)
        self.assertEqual(met_all(("ab", ()), (5, TOP), ()), (5, TOP))

    def test_against_folk_taken_one_by_one(self):
        dice = random.Random(3)
        for folk in some_folk(200, 31):
            moods, rules = folk
            crowd = tuple(dice.randint(0, 3) for _ in moods)
            behind = {rule: turned(moods, crowd, rule) for rule in rules}
            used = tuple(rule for rule in rules if behind[rule] is not None)
            self.assertEqual(meetings(folk, crowd), used)
            self.assertIs(is_at_rest(folk, crowd), used == ())
            for rule in all_rules(moods):
                if behind.get(rule) is None:
                    with self.assertRaises(BadRule):
                        met(folk, crowd, rule)
                    with self.assertRaises(BadRow):
                        met_all(folk, crowd, (rule,))
                else:
                    self.assertEqual(met(folk, crowd, rule), behind[rule])
                    self.assertEqual(met_all(folk, crowd, (rule,)), behind[rule])


class TestMet(unittest.TestCase):
    def test_any_value_for_the_rule(self):
        near = [["ab", "cc"], ("ab", "cc", "cc"), ("cc", "ab"), ("ba", "cc"), ("ab", "bc"), ("aa", "cc"), 0, True, "abcc"]
        for rule in near + odd_values():
            with self.subTest(shown(rule)):
                with self.assertRaises(BadRule):
                    met(FOLK, (5, 5, 5), rule)

    def test_too_great(self):
        folk = ("ab", (("ab", "aa"), ("aa", "ab"), ("bb", "aa")))
        self.assertEqual(met(folk, (TOP - 1, 1), ("ab", "aa")), (TOP, 0))
        self.assertEqual(met(folk, (TOP - 2, 2), ("bb", "aa")), (TOP, 0))
        self.assertEqual(met(folk, (TOP, TOP - 1), ("aa", "ab")), (TOP - 1, TOP))
        for crowd, rule in (((TOP, 1), ("ab", "aa")), ((TOP - 1, 2), ("bb", "aa")), ((TOP, TOP), ("aa", "ab"))):
            with self.subTest(crowd=crowd, rule=rule):
                with self.assertRaises(TooGreat):
                    met(folk, crowd, rule)

    def test_a_full_mood_that_stays_is_not_too_great(self):
        folk = ("abc", (("ab", "ac"),))
        self.assertEqual(met(folk, (TOP, 1, 0), ("ab", "ac")), (TOP, 0, 1))

    def test_the_order_of_the_errors(self):
        folk = ("ab", (("ab", "aa"), ("bb", "aa")))
        with self.assertRaises(BadFolk):
            met(("ba", ()), (TOP + 1, 1), ("ab", "aa"))
        with self.assertRaises(BadCrowd):
            met(folk, (TOP + 1, 1), None)
        with self.assertRaises(BadRule):
            met(folk, (TOP, 1), ("bb", "aa"))
        with self.assertRaises(TooGreat):
            met(folk, (TOP, 1), ("ab", "aa"))


class TestMetAll(unittest.TestCase):
    def test_rows_of_none_one_and_many(self):
        self.assertEqual(met_all(FOLK, (3, 0, 0), ()), (3, 0, 0))
        self.assertEqual(met_all(FOLK, (3, 0, 0), (("aa", "bc"),)), (1, 1, 1))
        self.assertEqual(met_all(FOLK, (3, 0, 0), (("aa", "bc"), ("ab", "cc"))), (0, 0, 3))
        self.assertEqual(met_all(RING, (5, 5, 0), (("ab", "cc"),) * 5), (0, 0, 10))
        self.assertEqual(met_all(RING, (1, 1, 0), RING[1] * 20000), (1, 1, 0))

    def test_a_row_that_stops_on_the_way(self):
        for row in (
            (("aa", "bc"), ("aa", "bc")), (("ab", "cc"),), (("aa", "bc"), ("ab", "cc"), ("ab", "cc")),
            (("aa", "bc"), ("cc", "ab")), (("aa", "bc"), ("bc", "aa")),
        ):
            with self.subTest(row):
                with self.assertRaises(BadRow):
                    met_all(FOLK, (3, 0, 0), row)

    def test_any_value_for_the_row(self):
        near = [
            [("aa", "bc")], ("aa", "bc"), (("aa", "bc"), None), (["aa", "bc"],), (("aa", "bc"), ("ab", "cc"), 1), "aabc",
            {("aa", "bc"): 1}, [], None, (True,), (("aa", "bc"), odd_values()),
        ]
        for row in near + odd_values() + [(value,) for value in odd_values()]:
            with self.subTest(shown(row)):
                with self.assertRaises(BadRow):
                    met_all(FOLK, (9, 9, 9), row)

    def test_against_one_meeting_behind_another(self):
        dice = random.Random(4)
        for folk in some_folk(100, 32):
            first = crowd = tuple(dice.randint(0, 4) for _ in folk[0])
            row = []
            while len(row) < 12 and not is_at_rest(folk, crowd):
                row.append(dice.choice(meetings(folk, crowd)))
                crowd = turned(folk[0], crowd, row[-1])
            self.assertEqual(met_all(folk, first, tuple(row)), crowd)

    def test_too_great_is_asked_behind_the_whole_row(self):
        folk = ("ab", (("ab", "aa"), ("aa", "ab"), ("bb", "ab")))
        over, back = ("ab", "aa"), ("aa", "ab")
        self.assertEqual(met_all(folk, (TOP, 5), (over, back)), (TOP, 5))
        self.assertEqual(met_all(folk, (TOP, 5), (over, over, back, over, back, back, back)), (TOP - 1, 6))
        for row in ((over,), (over, over, back), (back, over, over)):
            with self.subTest(row):
                with self.assertRaises(TooGreat):
                    met_all(folk, (TOP, 5), row)

    def test_the_order_of_the_errors(self):
        folk = ("ab", (("ab", "aa"), ("bb", "ab")))
        over = ("ab", "aa")
        with self.assertRaises(BadFolk):
            met_all(("ba", ()), (TOP + 1, 1), None)
        with self.assertRaises(BadCrowd):
            met_all(folk, (TOP + 1, 1), None)
        # The first step has too many already, yet the second one cannot be used at all.
        for row in ((over, over), (over, None), (over, ("bb", "ab"))):
            with self.subTest(row):
                with self.assertRaises(BadRow):
                    met_all(folk, (TOP, 1), row)
        with self.assertRaises(TooGreat):
            met_all(folk, (TOP, 1), (over,))


if __name__ == "__main__":
    unittest.main()
