"""[14]: the least crowds to begin with."""

import unittest

from meetfolk.choosing import least_crowd, least_other
from meetfolk.ending import end
from meetfolk.errors import BadFolk, BadNumber, ManyEnds, NeverRests, NoMood
from tests.plain import crowds, one_ended_folk, plain_ends
from tests.values import odd_values, shown

ONE = ("ab", (("aa", "bb"),))
MEET = ("abc", (("ab", "cc"),))
MANY = ("abc", (("ab", "cc"), ("aa", "bc")))
RING = ("abc", (("ab", "cc"), ("cc", "ab")))
BOTH = (least_crowd, least_other)


class TestLeast(unittest.TestCase):
    def test_single_values(self):
        for folk, mood, many, crowd, other in (
            (ONE, "b", 1, (0, 1), (2, 0)), (ONE, "b", 2, (2, 0), (2, 0)), (ONE, "b", 3, (2, 1), (2, 1)),
            (ONE, "b", 6, (6, 0), (6, 0)), (ONE, "b", 7, (6, 1), (6, 1)), (ONE, "a", 1, (1, 0), None), (ONE, "a", 2, None, None),
            (MEET, "c", 2, (1, 1, 0), (1, 1, 0)), (MEET, "c", 1, (0, 0, 1), (1, 1, 0)), (MEET, "c", 3, (1, 1, 1), (1, 1, 1)),
            (MEET, "c", 7, (3, 3, 1), (3, 3, 1)), (MEET, "a", 7, (7, 0, 0), None), (MEET, "b", 4, (0, 4, 0), None),
        ):
            with self.subTest(folk=folk, mood=mood, many=many):
                self.assertEqual(least_crowd(folk, mood, many), crowd)
                self.assertEqual(least_other(folk, mood, many), other)

    def test_none_in_a_mood(self):
        for folk in (ONE, MEET, ("a", ()), ("abcdef", ())):
            for mood in folk[0]:
                self.assertEqual(least_crowd(folk, mood, 0), (0,) * len(folk[0]))
                self.assertIs(type(least_crowd(folk, mood, 0)), tuple)
                self.assertIsNone(least_other(folk, mood, 0))

    def test_seven(self):
        for folk in (("a", ()), ("abcdef", ())):
            for mood in folk[0]:
                self.assertEqual(least_crowd(folk, mood, 7), tuple(7 * int(mood == one) for one in folk[0]))
                self.assertIsNone(least_other(folk, mood, 7))

    def test_against_all_crowds_of_at_most_seven(self):
        none, others = 0, 0
        for folk in one_ended_folk(70, 121):
            told = [(crowd, list(plain_ends(folk, crowd))[0]) for many in range(8) for crowd in crowds(folk[0], many)]
            for place, mood in enumerate(folk[0]):
                for many in range(8):
                    found = [crowd for crowd, last in told if last[place] >= many]
                    other = [crowd for crowd in found if crowd[place] < many]
                    self.assertEqual(least_crowd(folk, mood, many), found[0] if found else None)
                    self.assertEqual(least_other(folk, mood, many), other[0] if other else None)
                    none += not found
                    others += bool(other)
        self.assertGreater(min(none, others), 100)

    def test_moods_that_are_none(self):
        for function in BOTH:
            for mood in ["", "z", "ab", "abc", "aa", "A", "c ", 0, None, ("a",), ["a"], {"a": 1}, True, b"a"] + odd_values():
                if mood != "a":
                    with self.subTest(function=function.__name__, mood=shown(mood)):
                        with self.assertRaises(NoMood):
                            function(MEET, mood, 1)

    def test_numbers_that_are_none(self):
        for function in BOTH:
            for many in (8, 9, 10 ** 40, -1, -7, True, False, None, "1", (1,), [1], {}, 10 ** 5000, -(10 ** 5000)):
                with self.subTest(function=function.__name__, many=shown(many)):
                    with self.assertRaises(BadNumber):
                        function(ONE, "a", many)

    def test_the_order_of_the_errors(self):
        for function in BOTH:
            for mood, many in (("a", 1), ("z", 1), ("a", 8), ("z", 8), (None, None), ("ab", True)):
                with self.subTest(function=function.__name__, mood=mood, many=many):
                    with self.assertRaises(BadFolk):
                        function(("cab", RING[1]), mood, many)
                    with self.assertRaises(NeverRests):
                        function(RING, mood, many)
                    with self.assertRaises(ManyEnds):
                        function(MANY, mood, many)
                    if mood != "a":
                        with self.assertRaises(NoMood):
                            function(MEET, mood, many)
            for value in odd_values():
                with self.assertRaises(BadFolk):
                    function(value, "a", 1)
                with self.assertRaises(NoMood):
                    function(MEET, "z", value)

    def test_the_crowds_that_are_told(self):
        for folk in one_ended_folk(30, 122):
            for place, mood in enumerate(folk[0]):
                for many in (1, 3):
                    crowd = least_other(folk, mood, many)
                    if crowd is not None:
                        self.assertLess(crowd[place], many)
                        self.assertGreaterEqual(end(folk, crowd)[place], many)


if __name__ == "__main__":
    unittest.main()
