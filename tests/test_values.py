"""[1] and [2]: any value for any parameter, the order of the errors, folk and crowds."""

import copy
import itertools
import unittest

from meetfolk.alike import are_parted, ends_alike, keeps, kept, unlike_crowd
from meetfolk.choosing import (
    chances, count_rows, expected, least_crowd, least_other, longest, longest_row, shortest,
)
from meetfolk.crowds import is_at_rest, is_folk, meetings, met, met_all
from meetfolk.desks import Desk, desk_of
from meetfolk.ending import end, ends, ends_paper, is_one_ended, judged_ends, leaps, parting
from meetfolk.errors import (
    BadClasses, BadCrowd, BadFolk, BadNumber, BadRow, BadRule, BadShape, BadSum, NoMood, NotText,
)
from meetfolk.rays import on_ray, ray
from meetfolk.reading import check, printed
from meetfolk.resting import always_rests, judged_rest, rest_paper, round_of, weights
from meetfolk.running import run
from meetfolk.shapes import is_of_shape, likenesses, lumped, lumped_crowd, lumps, rest_shapes
from tests.values import all_rules, nested, odd_values, shown

FOLK = ("abc", (("ab", "cc"), ("aa", "bc")))
CROWD = (2, 1, 0)
RULE = ("ab", "cc")
PAPER = ("weights", (3, 1, 0))
ONE = ("abc", (("ab", "cc"),))
TWO = ("two", (2, 1, 0), (("ab", "cc"),), (("aa", "bc"),))
TOP = 10 ** 40
TEXT = "moods ab;rule aa>bb;crowd X=3 a;ask end X;"


def at_desk(folk, crowd):
    """What a new desk tells."""
    desk = Desk(folk, crowd)
    return desk.crowd(), desk.row(), desk.is_at_rest(), desk.text()


def met_at_desk(folk, crowd, rule):
    """The crowd behind a meeting at a desk."""
    desk = Desk(folk, crowd)
    desk.meet(rule)
    return desk.crowd()


def joined_at_desk(folk, crowd, other):
    """The crowd behind a join at a desk."""
    desk = Desk(folk, crowd)
    desk.join(other)
    return desk.crowd()


def left_at_desk(folk, crowd, mood):
    """The crowd at a desk that one in the mood has left."""
    desk = Desk(folk, crowd)
    desk.leave(mood)
    return desk.crowd()


def desk_again(text):
    """The text of the desk of a text."""
    return desk_of(text).text()


# Each function with good arguments, and the error that a wrong one in each place raises.
CALLS = (
    (meetings, (FOLK, CROWD), (BadFolk, BadCrowd)),
    (met, (FOLK, CROWD, RULE), (BadFolk, BadCrowd, BadRule)),
    (is_at_rest, (FOLK, CROWD), (BadFolk, BadCrowd)),
    (met_all, (FOLK, CROWD, (RULE,)), (BadFolk, BadCrowd, BadRow)),
    (always_rests, (FOLK,), (BadFolk,)),
    (weights, (FOLK,), (BadFolk,)),
    (round_of, (FOLK,), (BadFolk,)),
    (rest_paper, (FOLK,), (BadFolk,)),
    (judged_rest, (FOLK, PAPER), (BadFolk,)),
    (ends, (FOLK, CROWD), (BadFolk, BadCrowd)),
    (is_one_ended, (FOLK,), (BadFolk,)),
    (parting, (FOLK,), (BadFolk,)),
    (ends_paper, (FOLK,), (BadFolk,)),
    (judged_ends, (FOLK, TWO), (BadFolk,)),
    (leaps, (ONE, CROWD), (BadFolk, BadCrowd)),
    (end, (ONE, CROWD), (BadFolk, BadCrowd)),
    (ray, (ONE, CROWD, CROWD), (BadFolk, BadCrowd, BadCrowd)),
    (on_ray, (ONE, CROWD, CROWD, 3), (BadFolk, BadCrowd, BadCrowd, BadNumber)),
    (ends_alike, (ONE, ONE), (BadFolk, BadFolk)),
    (unlike_crowd, (ONE, ONE), (BadFolk, BadFolk)),
    (keeps, (FOLK, (1, 1, 1)), (BadFolk, BadSum)),
    (kept, (FOLK,), (BadFolk,)),
    (are_parted, (FOLK, CROWD, CROWD), (BadFolk, BadCrowd, BadCrowd)),
    (longest, (FOLK, CROWD), (BadFolk, BadCrowd)),
    (shortest, (FOLK, CROWD), (BadFolk, BadCrowd)),
    (longest_row, (FOLK, CROWD), (BadFolk, BadCrowd)),
    (count_rows, (FOLK, CROWD), (BadFolk, BadCrowd)),
    (chances, (FOLK, CROWD), (BadFolk, BadCrowd)),
    (expected, (FOLK, CROWD), (BadFolk, BadCrowd)),
    (least_crowd, (ONE, "a", 3), (BadFolk, NoMood, BadNumber)),
    (least_other, (ONE, "a", 3), (BadFolk, NoMood, BadNumber)),
    (check, (TEXT,), (NotText,)),
    (printed, (TEXT,), (NotText,)),
    (run, (TEXT,), (NotText,)),
    (at_desk, (FOLK, CROWD), (BadFolk, BadCrowd)),
    (met_at_desk, (FOLK, CROWD, RULE), (BadFolk, BadCrowd, BadRule)),
    (joined_at_desk, (FOLK, CROWD, CROWD), (BadFolk, BadCrowd, BadCrowd)),
    (left_at_desk, (FOLK, CROWD, "a"), (BadFolk, BadCrowd, NoMood)),
    (desk_again, ("moods ab\nrules aa>bb\ncrowd 3 0\n",), (NotText,)),
    (is_of_shape, (FOLK, CROWD, "1*."), (BadFolk, BadCrowd, BadShape)),
    (rest_shapes, (FOLK,), (BadFolk,)),
    (likenesses, (FOLK,), (BadFolk,)),
    (lumps, (FOLK,), (BadFolk,)),
    (lumped, (FOLK, "aaa"), (BadFolk, BadClasses)),
    (lumped_crowd, (FOLK, "abc", CROWD), (BadFolk, BadClasses, BadCrowd)),
)


def wrong_values(error):
    """The odd values that are wrong for a parameter for which this error is raised."""
    if error is NoMood:
        return [value for value in odd_values() if value != "a"]
    if error is BadClasses:
        return [value for value in odd_values() if value != "abc"]
    if error is NotText:
        return [value for value in odd_values() if not isinstance(value, str)]
    if error is BadNumber:
        return [value for value in odd_values() if type(value) is not int or not 0 <= value <= 10 ** 30]
    return odd_values()


NO_MOODS = (
    "", "abcdefg", "ba", "aa", "aab", "abb", "acb", "abA", "A", "a b", "a1", "1", "\u00e4", "a\u00e4", "\u0430",
    "\uff41", "`a", "a{", "a\n", None, 1, True, ("a", "b"), ["a", "b"], {"a": "b"}, (), [], nested(tuple, 28),
)

NO_RULES = (
    None, True, 0, "", "ab", ["ab", "cc"], ("ab",), ("ab", "cc", "aa"), (), ("ab", "ab"), ("aa", "aa"), ("ba", "cc"),
    ("ab", "cb"), ("a", "cc"), ("ab", "c"), ("abc", "cc"), ("ab", "abc"), ("", "cc"), ("ab", ""), ("ad", "cc"),
    ("ab", "cd"), ("zz", "cc"), ("AB", "cc"), ("ab", None), (None, "cc"), (1, "cc"), ("ab", True), ("ab", ("c", "c")),
    (["a", "b"], "cc"), ("ab", ["cc"]), ({"ab": "cc"}, "cc"), {"ab": "cc"}, nested(tuple, 27), nested(list, 27),
)


class TestFolk(unittest.TestCase):
    def test_folk(self):
        twelve = tuple(all_rules("abc")[:12])
        for value in (
            ("a", ()), ("z", ()), ("abcdef", ()), ("uvwxyz", ()), ("ab", (("aa", "bb"),)), ("az", (("az", "zz"),)), FOLK,
            ("abc", (("aa", "bc"), ("ab", "cc"))), ("ab", (("aa", "bb"), ("bb", "aa"))), ("abc", twelve),
            ("abc", (("aa", "bb"), ("aa", "ab"), ("aa", "bc"))), ("abc", (("ac", "cc"),)),
        ):
            with self.subTest(value):
                self.assertIs(is_folk(value), True)

    def test_values_of_every_kind(self):
        for value in odd_values():
            with self.subTest(shown(value)):
                self.assertIs(is_folk(value), False)

    def test_moods_that_are_none(self):
        for moods in NO_MOODS:
            with self.subTest(shown(moods)):
                self.assertIs(is_folk((moods, ())), False)
                self.assertIs(is_folk((moods, (("aa", "bb"),))), False)

    def test_rules_that_are_none(self):
        for rule in NO_RULES:
            with self.subTest(shown(rule)):
                self.assertIs(is_folk(("abc", (rule,))), False)
                self.assertIs(is_folk(("abc", (("ab", "cc"), rule))), False)

    def test_rules_of_letters_that_are_no_moods(self):
        for two in ("ac", "af", "cf", "fz", "aa", "zz", "ax"):
            with self.subTest(two):
                self.assertIs(is_folk(("bfx", ((two, "bb"),))), False)
                self.assertIs(is_folk(("bfx", (("bb", two),))), False)

    def test_wrong_tuples_of_rules(self):
        for rules in odd_values():
            if rules != ():
                with self.subTest(shown(rules)):
                    self.assertIs(is_folk(("abc", rules)), False)
        thirteen = tuple(all_rules("abc")[:13])
        self.assertIs(is_folk(("abc", thirteen)), False)
        self.assertIs(is_folk(("abc", thirteen[:12])), True)
        self.assertIs(is_folk(("abc", list(thirteen[:12]))), False)
        self.assertIs(is_folk(("abc", (("ab", "cc"), ("aa", "bc"), ("ab", "cc")))), False)
        self.assertIs(is_folk(("abc", (("ab", "cc"), ("ab", "cc")))), False)

    def test_folk_are_a_tuple_of_two(self):
        for value in (list(FOLK), FOLK + ((),), FOLK[:1], (FOLK[1], FOLK[0]), {"abc": FOLK[1]}, (FOLK,), [FOLK]):
            with self.subTest(value):
                self.assertIs(is_folk(value), False)


class TestCrowds(unittest.TestCase):
    def test_crowds(self):
        for crowd in ((0, 0, 0), (TOP, TOP, TOP), (0, TOP, 1)):
            with self.subTest(crowd):
                self.assertIsInstance(meetings(FOLK, crowd), tuple)

    def test_wrong_crowds(self):
        near = [
            (), (1, 1), (1, 1, 1, 1), [1, 1, 1], (-1, 1, 1), (1, 1, -1), (TOP + 1, 0, 0), (0, 0, TOP + 1),
            (True, 1, 1), (1, False, 1), (1, 1, True), ("1", 1, 1), (None, 1, 1), ((1,), 1, 1), ([1], 1, 1),
            (1, 1, {}), {0: 1, 1: 1, 2: 1}, "111", (1, 1, nested(dict, 29)), (10 ** 5000, 0, 0),
        ]
        for crowd in near + odd_values():
            for function, good, told in CALLS:
                for at in range(len(told)):
                    if told[at] is BadCrowd:
                        with self.subTest(function=function.__name__, at=at, crowd=shown(crowd)):
                            with self.assertRaises(BadCrowd):
                                function(*good[:at], crowd, *good[at + 1:])

    def test_the_length_is_that_of_these_folk(self):
        for many in range(1, 7):
            folk = ("abcdef"[:many], ())
            for length in range(8):
                if length == many:
                    self.assertIs(is_at_rest(folk, (TOP,) * length), True)
                else:
                    with self.assertRaises(BadCrowd):
                        is_at_rest(folk, (1,) * length)


class TestAnyValue(unittest.TestCase):
    def test_each_parameter(self):
        for function, good, told in CALLS:
            for at, error in enumerate(told):
                for value in wrong_values(error):
                    with self.subTest(function=function.__name__, at=at, value=shown(value)):
                        with self.assertRaises(error):
                            function(*good[:at], value, *good[at + 1:])

    def test_folk_that_are_nearly_folk(self):
        near = [(moods, ()) for moods in NO_MOODS] + [("abc", (rule,)) for rule in NO_RULES]
        for function, good, told in CALLS:
            for folk in near if told[0] is BadFolk else []:
                with self.subTest(function=function.__name__, folk=shown(folk)):
                    with self.assertRaises(BadFolk):
                        function(folk, *good[1:])

    def test_the_first_wrong_parameter_is_told(self):
        for function, good, told in CALLS:
            for wrong in itertools.product((False, True), repeat=len(told)):
                if not any(wrong):
                    continue
                for value in (None, -3, [], nested(tuple, 30)):
                    passed = [value if at < len(told) and wrong[at] else kept for at, kept in enumerate(good)]
                    with self.subTest(function=function.__name__, wrong=wrong, value=shown(value)):
                        with self.assertRaises(told[wrong.index(True)]):
                            function(*passed)

    def test_bad_folk_ahead_of_a_wrong_paper(self):
        for paper in odd_values():
            for function in (judged_rest, judged_ends):
                with self.assertRaises(BadFolk):
                    function(["abc", ()], paper)

    def test_nothing_handed_in_is_changed(self):
        values = odd_values() + [
            FOLK, CROWD, RULE, (RULE,), PAPER, ("weights", [3, 1, 0]), ("round", [1, 1, 0], [RULE]), ONE, TWO,
            ends_paper(ONE), ("one", {(2, 0, 0): [2, 0, 0]}), ["two", [2, 0, 0], [RULE], [RULE]],
        ]
        kept = copy.deepcopy(values)
        for function, good, _ in CALLS + ((is_folk, (FOLK,), ()),):
            for at in range(len(good)):
                for value in values:
                    try:
                        function(*good[:at], value, *good[at + 1:])
                    except ValueError:
                        pass
        self.assertEqual(values, kept)
        self.assertEqual([type(value) for value in values], [type(value) for value in kept])

    def test_equal_calls_have_equal_answers(self):
        ring = ("abc", (("ab", "cc"), ("cc", "ab")))
        others = ((round_of, (ring,), ()), (rest_paper, (ring,), ()), (ends_paper, (ONE,), ()))
        for function, good, _ in tuple(call for call in CALLS if call[0] is not round_of) + others:
            with self.subTest(function.__name__):
                self.assertEqual(function(*good), function(*copy.deepcopy(good)))

    def test_answers_that_are_changed_change_no_later_ones(self):
        for function, good in ((chances, (FOLK, CROWD)), (lambda folk: ends_paper(folk)[1], (ONE,))):
            first = function(*good)
            told = dict(first)
            first.clear()
            self.assertEqual(function(*good), told)


if __name__ == "__main__":
    unittest.main()
