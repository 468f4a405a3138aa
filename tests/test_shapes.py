"""[18]: shapes, and those of the crowds at rest."""

import itertools
import random
import unittest

from meetfolk.crowds import is_at_rest
from meetfolk.errors import BadCrowd, BadFolk, BadShape
from meetfolk.shapes import is_of_shape, rest_shapes
from tests.plain import crowds, one_ended_folk, outs
from tests.values import all_rules, odd_values, shown, some_folk

FOLK = ("abc", (("ab", "cc"), ("aa", "cc"), ("bb", "cc")))
TOP = 10 ** 40

# What a sign lets be in a mood, of the numbers that are told apart by some sign.
ALLOWED = {"*": (0, 1, 2, 3, TOP), "1": (0, 1), ".": (0,)}

SHAPES = (
    (("a", ()), ("*",)), (("z", ()), ("*",)), (("abc", ()), ("***",)), (("abcdef", ()), ("******",)),
    (("ab", (("aa", "bb"),)), ("1*",)), (("ab", (("bb", "aa"),)), ("*1",)), (("ab", (("ab", "bb"),)), ("*.", ".*")),
    (("ab", (("aa", "bb"), ("bb", "aa"))), ("11",)), (("ab", (("aa", "ab"), ("ab", "bb"))), (".*", "1.")),
    (("ab", (("aa", "ab"), ("ab", "bb"), ("bb", "aa"))), (".1", "1.")), (FOLK, (".1*", "1.*")),
    (("abc", (("ab", "cc"),)), ("*.*", ".**")), (("abc", (("ab", "cc"), ("bc", "aa"))), ("*.*", ".*.")),
    (("abc", (("ab", "cc"), ("bc", "aa"), ("ac", "bb"))), ("*..", ".*.", "..*")),
    (("abc", (("ab", "cc"), ("ab", "aa"), ("ab", "ac"))), ("*.*", ".**")),
    (("bxz", (("bb", "xx"), ("xz", "bb"), ("zz", "bb"))), ("1*.", "1.1")),
    # Three pairs of moods that cannot be beside each other: eight shapes; two threes of them: nine.
    (("abcdef", (("ab", "cc"), ("cd", "aa"), ("ef", "aa"))), None),
    (("abcdef", (("ab", "cc"), ("bc", "aa"), ("ac", "bb"), ("de", "ff"), ("ef", "dd"), ("df", "ee"))), None),
)


def plain_fits(crowd, shape):
    """Whether the crowd is of the shape."""
    return all({"*": True, "1": many < 2, ".": many == 0}[sign] for many, sign in zip(crowd, shape))


def some_crowds(dice, moods):
    """All crowds of up to five folk, and some with great numbers."""
    for many in range(6):
        yield from crowds(moods, many)
    for _ in range(60):
        yield tuple(dice.choice((0, 0, 1, 1, 2, TOP)) for _ in moods)


def telling_crowds(width):
    """Crowds of which some shape of moods of this width is told apart from each other one: 0, 1 or 2 in each mood."""
    return itertools.product((0, 1, 2), repeat=width)


def many_folk():
    found = [folk for folk, _ in SHAPES] + some_folk(60, 51) + one_ended_folk(40, 52)
    dice = random.Random(53)
    for many in range(1, 7):
        moods = "bdfhjl"[:many]
        rules = all_rules(moods)
        for _ in range(12):
            found.append((moods, tuple(dice.sample(rules, min(12, len(rules), dice.randint(0, 14))))))
    return found


class TestRestShapes(unittest.TestCase):
    def test_shapes_that_are_told(self):
        for folk, shapes in SHAPES:
            if shapes is not None:
                with self.subTest(folk):
                    self.assertEqual(rest_shapes(folk), shapes)

    def test_many_shapes(self):
        pairs, threes = SHAPES[-2][0], SHAPES[-1][0]
        self.assertEqual(rest_shapes(pairs), tuple(sorted(
            "".join(order) for order in itertools.product(("*.", ".*"), repeat=3)
        )))
        self.assertEqual(rest_shapes(threes), tuple(sorted(
            "".join(order) for order in itertools.product(("*..", ".*.", "..*"), repeat=2)
        )))

    def test_at_rest_exactly_if_of_a_shape(self):
        dice = random.Random(54)
        for folk in many_folk():
            shapes = rest_shapes(folk)
            for crowd in some_crowds(dice, folk[0]):
                fitting = [shape for shape in shapes if plain_fits(crowd, shape)]
                self.assertEqual(bool(fitting), is_at_rest(folk, crowd), (folk, crowd))
                if sum(crowd) <= 5:
                    self.assertEqual(bool(fitting), not outs(folk, crowd))

    def test_none_can_be_left_out(self):
        for folk in many_folk():
            shapes = rest_shapes(folk)
            for shape in shapes:
                others = [other for other in shapes if other != shape]
                own = [
                    crowd for crowd in telling_crowds(len(folk[0]))
                    if plain_fits(crowd, shape) and not any(plain_fits(crowd, other) for other in others)
                ]
                self.assertTrue(own, (folk, shape))

    def test_ascending_texts_each_once(self):
        for folk in many_folk():
            shapes = rest_shapes(folk)
            self.assertIs(type(shapes), tuple)
            self.assertEqual(list(shapes), sorted(set(shapes)))
            for shape in shapes:
                self.assertEqual((type(shape), len(shape)), (str, len(folk[0])))

    def test_the_order_of_the_rules_and_their_to_are_alike(self):
        dice = random.Random(55)
        for moods, rules in some_folk(40, 56):
            turned = list(rules)
            dice.shuffle(turned)
            self.assertEqual(rest_shapes((moods, tuple(turned))), rest_shapes((moods, rules)))

    def test_all_folk_of_two_moods(self):
        rules = all_rules("ab")
        for many in range(len(rules) + 1):
            for some in itertools.combinations(rules, many):
                folk = ("ab", some)
                for crowd in itertools.product(range(4), repeat=2):
                    fitting = [shape for shape in rest_shapes(folk) if plain_fits(crowd, shape)]
                    self.assertEqual(bool(fitting), is_at_rest(folk, crowd))

    def test_wrong_folk(self):
        for value in odd_values():
            with self.subTest(shown(value)), self.assertRaises(BadFolk):
                rest_shapes(value)


class TestIsOfShape(unittest.TestCase):
    def test_each_sign(self):
        for sign, allowed in ALLOWED.items():
            for many in (0, 1, 2, 3, TOP):
                self.assertIs(is_of_shape(("a", ()), (many,), sign), many in allowed)
                self.assertIs(is_of_shape(FOLK, (many, 0, 9), sign + ".*"), many in allowed)
                self.assertIs(is_of_shape(FOLK, (7, 1, many), "*1" + sign), many in allowed)

    def test_all_shapes_of_two_moods(self):
        for shape in itertools.product("*1.", repeat=2):
            for crowd in itertools.product((0, 1, 2, TOP), repeat=2):
                told = all(many in ALLOWED[sign] for many, sign in zip(crowd, shape))
                self.assertIs(is_of_shape(("az", (("az", "zz"),)), crowd, "".join(shape)), told)

    def test_shapes_of_crowds_not_at_rest(self):
        self.assertIs(is_of_shape(FOLK, (5, 5, 5), "***"), True)
        self.assertIs(is_of_shape(FOLK, (1, 1, 0), "11."), True)
        self.assertIs(is_of_shape(FOLK, (1, 1, 1), "11."), False)

    def test_wrong_shapes(self):
        for shape in (
            "", "*", "**", "****", "1.", "1.*1", "2.*", "0.*", "a.*", "*.+", "* *", "*.\n", "1.*\n", " 1.*", "1.* ",
            "1,*", "\u0661.*", "\uff11.*", "1\u00b7*", "1.\u2217", "*1\ud800", ("1", ".", "*"), ["1", ".", "*"],
            {"1": 1, ".": 1, "*": 1}, None, 1, 111, True, ("1.*",), ["1.*"], (1, 0, 9),
        ):
            with self.subTest(shown(shape)), self.assertRaises(BadShape):
                is_of_shape(FOLK, (1, 0, 9), shape)

    def test_all_other_signs(self):
        for sign in map(chr, range(0x500)):
            if sign not in "*1.":
                for shape in (sign + ".*", "1" + sign + "*", "1." + sign):
                    with self.assertRaises(BadShape):
                        is_of_shape(FOLK, (0, 0, 0), shape)

    def test_wrong_values_of_each_kind_and_their_order(self):
        for value in odd_values():
            with self.assertRaises(BadFolk):
                is_of_shape(value, value, value)
            with self.assertRaises(BadCrowd):
                is_of_shape(FOLK, value, value)
            with self.assertRaises(BadShape):
                is_of_shape(FOLK, (1, 0, 9), value)


if __name__ == "__main__":
    unittest.main()
