"""What the document promises over the whole program: all parts of it tell the same of one crowd."""

import random
import unittest

from meetfolk.alike import are_parted, ends_alike, keeps, kept
from meetfolk.choosing import longest, shortest
from meetfolk.crowds import is_at_rest, meetings, met_all
from meetfolk.desks import Desk, desk_of
from meetfolk.ending import end, ends, is_one_ended, leaps
from meetfolk.resting import always_rests, weights
from meetfolk.running import run
from meetfolk.shapes import is_of_shape, likenesses, lumped, lumped_crowd, lumps, rest_shapes
from tests.plain import one_ended_folk
from tests.test_likenesses import crowd_called
from tests.values import some_folk

GREAT = 10 ** 30


def weighed(numbers, crowd):
    """The sum of each mood's number times how many are in it."""
    return sum(number * many for number, many in zip(numbers, crowd))


def both(crowd, other):
    return tuple(one + two for one, two in zip(crowd, other))


def has_rest_shape(folk, crowd):
    return any(is_of_shape(folk, crowd, shape) for shape in rest_shapes(folk))


def small_crowd(dice, folk):
    return tuple(dice.choice((0, 0, 1, 1, 2)) for _ in folk[0])


def brought_to_rest(dice, desk, folk):
    """Let folk meet at the desk by any rules until rest."""
    while not desk.is_at_rest():
        desk.meet(dice.choice(meetings(folk, desk.crowd())))
    return desk.crowd()


class TestTogether(unittest.TestCase):
    def test_a_desk_comes_to_the_end_by_any_rules(self):
        dice = random.Random(91)
        for folk in one_ended_folk(60, 92):
            crowd = small_crowd(dice, folk)
            told = end(folk, crowd)
            for _ in range(3):
                desk = Desk(folk, crowd)
                self.assertEqual(brought_to_rest(dice, desk, folk), told)
                row = tuple(rule for _, rule in desk.row())
                self.assertEqual(met_all(folk, crowd, row), told)
                if sum(crowd) <= 8:
                    self.assertEqual(ends(folk, crowd), (told,))
                    self.assertTrue(shortest(folk, crowd) <= len(row) <= longest(folk, crowd))

    def test_a_desk_comes_to_one_of_many_ends(self):
        dice = random.Random(93)
        for folk in some_folk(80, 94):
            crowd = small_crowd(dice, folk)
            if always_rests(folk) and sum(crowd) <= 8:
                self.assertIn(brought_to_rest(dice, Desk(folk, crowd), folk), ends(folk, crowd))

    def test_the_end_of_a_join_is_that_of_the_ends(self):
        dice = random.Random(95)
        for folk in one_ended_folk(60, 96):
            one, two = small_crowd(dice, folk), small_crowd(dice, folk)
            told = end(folk, both(one, two))
            self.assertEqual(end(folk, both(end(folk, one), two)), told)
            self.assertEqual(end(folk, both(end(folk, one), end(folk, two))), told)
            desk = Desk(folk, one)
            brought_to_rest(dice, desk, folk)
            desk.join(two)
            self.assertEqual(brought_to_rest(dice, desk, folk), told)
            self.assertEqual(desk_of(desk.text()).crowd(), told)

    def test_great_joins(self):
        for folk in (("ab", (("aa", "bb"),)), ("abc", (("ab", "cc"),)), ("abc", (("aa", "bc"), ("bb", "cc")))):
            self.assertIs(is_one_ended(folk), True)
            moods = folk[0]
            one, two = tuple(range(GREAT, GREAT + len(moods))), tuple(range(7, 7 + len(moods)))
            told = end(folk, both(one, two))
            self.assertEqual(end(folk, both(end(folk, one), two)), told)
            self.assertTrue(has_rest_shape(folk, told))
            self.assertFalse(are_parted(folk, both(one, two), told))

    def test_a_program_tells_what_a_desk_comes_to(self):
        dice = random.Random(97)
        for folk in one_ended_folk(40, 98):
            one, two = small_crowd(dice, folk), small_crowd(dice, folk)
            text = f"moods {folk[0]};" + "".join(f"rule {rule[0]}>{rule[1]};" for rule in folk[1])
            for name, crowd in (("X", one), ("Y", two)):
                text += f"crowd {name}=" + ",".join(f"{many} {mood}" for many, mood in zip(crowd, folk[0])) + ";"
            text += "join Z=X+Y;ask rests;ask one;ask end Z;ask rest Z;ask end X;"
            desk = Desk(folk, one)
            desk.join(two)
            rests = desk.is_at_rest()
            told = (True, True, brought_to_rest(dice, desk, folk), rests, end(folk, one))
            self.assertEqual(run(text), told)

    def test_at_rest_exactly_if_of_a_shape(self):
        dice = random.Random(99)
        for folk in some_folk(60, 100) + one_ended_folk(30, 101):
            for _ in range(8):
                one, two = small_crowd(dice, folk), small_crowd(dice, folk)
                for crowd in (one, two, both(one, two)):
                    self.assertIs(is_at_rest(folk, crowd), has_rest_shape(folk, crowd))
                    self.assertIs(Desk(folk, crowd).is_at_rest(), has_rest_shape(folk, crowd))

    def test_ends_are_of_a_shape_and_are_not_parted(self):
        dice = random.Random(102)
        for folk in one_ended_folk(60, 103):
            crowd = tuple(dice.randrange(60) for _ in folk[0])
            told = end(folk, crowd)
            self.assertTrue(has_rest_shape(folk, told))
            self.assertFalse(are_parted(folk, crowd, told))
            held = weights(folk)
            self.assertEqual(weighed(held, crowd) > weighed(held, told), crowd != told)
            self.assertEqual(bool(leaps(folk, crowd)), crowd != told)

    def test_kept_sums_at_a_desk(self):
        dice = random.Random(104)
        for folk in some_folk(60, 105):
            crowd = small_crowd(dice, folk)
            desk, come, gone = Desk(folk, crowd), (0,) * len(crowd), (0,) * len(crowd)
            for _ in range(25):
                rules = meetings(folk, desk.crowd())
                mood = dice.randrange(len(crowd))
                if rules and dice.random() < 0.7:
                    desk.meet(dice.choice(rules))
                elif desk.crowd()[mood] and dice.random() < 0.5:
                    desk.leave(folk[0][mood])
                    gone = both(gone, tuple(int(at == mood) for at in range(len(crowd))))
                else:
                    desk.join(crowd)
                    come = both(come, crowd)
            for numbers in kept(folk):
                self.assertIs(keeps(folk, numbers), True)
                told = weighed(numbers, crowd) + weighed(numbers, come) - weighed(numbers, gone)
                self.assertEqual(weighed(numbers, desk.crowd()), told)
            self.assertEqual(sum(desk.crowd()), sum(crowd) + sum(come) - sum(gone))

    def test_likenesses_of_what_is_done_at_a_desk(self):
        ring = ("abc", (("aa", "bb"), ("bb", "cc"), ("cc", "aa")))
        for folk in (("abc", (("ab", "cc"),)), ring, ("abcd", (("ab", "cd"),))):
            moods = folk[0]
            for text in likenesses(folk):
                names = dict(zip(moods, text))
                dice, crowd = random.Random(106), (2, 3, 1, 2)[:len(moods)]
                desk, other = Desk(folk, crowd), Desk(folk, crowd_called(moods, text, crowd))
                for _ in range(20):
                    rules = meetings(folk, desk.crowd())
                    if rules:
                        rule = dice.choice(rules)
                        desk.meet(rule)
                        other.meet(tuple("".join(sorted(names[mood] for mood in two)) for two in rule))
                    else:
                        desk.join(crowd)
                        other.join(crowd_called(moods, text, crowd))
                    self.assertEqual(other.crowd(), crowd_called(moods, text, desk.crowd()))

    def test_lumped_crowds_that_join(self):
        dice = random.Random(107)
        for folk in one_ended_folk(20, 108):
            one, two = small_crowd(dice, folk), small_crowd(dice, folk)
            last = end(folk, both(one, two))
            for classes in lumps(folk)[:6]:
                others = lumped(folk, classes)
                self.assertIs(always_rests(others) and is_one_ended(others), True)
                desk = Desk(others, lumped_crowd(folk, classes, one))
                desk.join(lumped_crowd(folk, classes, two))
                self.assertEqual(brought_to_rest(dice, desk, others), lumped_crowd(folk, classes, last))

    def test_rules_in_any_order_end_alike(self):
        for moods, rules in one_ended_folk(30, 109):
            turned = (moods, rules[::-1])
            self.assertIs(ends_alike((moods, rules), turned), True)
            self.assertEqual(rest_shapes(turned), rest_shapes((moods, rules)))
            self.assertEqual(kept(turned), kept((moods, rules)))
            self.assertEqual(lumps(turned), lumps((moods, rules)))
            self.assertEqual(likenesses(turned), likenesses((moods, rules)))


if __name__ == "__main__":
    unittest.main()
