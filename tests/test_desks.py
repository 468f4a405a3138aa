"""[17]: desks, and what is done at them."""

import copy
import random
import unittest

from meetfolk.crowds import is_at_rest, meetings, met
from meetfolk.desks import Desk, desk_of
from meetfolk.errors import BadCrowd, BadFolk, BadRule, FolkError, NoMood, Nobody, NothingDone, TooGreat
from tests.plain import crowd_of, letters, one_ended_folk, outs
from tests.values import all_rules, odd_values, shown, some_folk

FOLK = ("abc", (("ab", "cc"), ("aa", "bc")))
RULE = ("ab", "cc")
TOP = 10 ** 40


def told(desk):
    """All that the desk tells."""
    return desk.crowd(), desk.row(), desk.is_at_rest(), desk.text()


class PlainDesk:
    """The moods of the folk at a desk, one after another, and what was done there."""

    def __init__(self, folk, crowd):
        self.folk = folk
        self.rows = [(letters(folk[0], crowd), None)]

    def crowd(self):
        return crowd_of(self.folk[0], self.rows[-1][0])

    def row(self):
        return tuple(deed for _, deed in self.rows[1:])

    def do(self, deed):
        """Do it if it can be done; tell whether it was."""
        here = list(self.rows[-1][0])
        kind, value = deed
        if kind == "meet":
            if value not in dict(outs(self.folk, self.crowd())):
                return False
            for mood in value[0]:
                here.remove(mood)
            here += list(value[1])
        elif kind == "join":
            here += letters(self.folk[0], value)
        else:
            if value not in here:
                return False
            here.remove(value)
        self.rows.append((here, deed))
        return True

    def undo(self):
        if len(self.rows) == 1:
            return False
        self.rows.pop()
        return True


def some_deed(dice, folk):
    kind = dice.choice(("meet", "meet", "meet", "join", "leave", "undo", "undo"))
    value = None
    if kind == "meet" and folk[1]:
        value = dice.choice(folk[1])
    elif kind == "join":
        value = tuple(dice.choice((0, 0, 1, 2)) for _ in folk[0])
    elif kind == "leave":
        value = dice.choice(folk[0])
    return kind, value


class TestDeeds(unittest.TestCase):
    def test_a_new_desk(self):
        desk = Desk(FOLK, (2, 1, 0))
        self.assertEqual(told(desk), ((2, 1, 0), (), False, "moods abc\nrules ab>cc aa>bc\ncrowd 2 1 0\n"))
        with self.assertRaises(NothingDone):
            desk.undo()

    def test_each_deed(self):
        desk = Desk(FOLK, (2, 1, 0))
        self.assertIsNone(desk.meet(RULE))
        self.assertEqual((desk.crowd(), desk.row(), desk.is_at_rest()), ((1, 0, 2), (("meet", RULE),), True))
        self.assertIsNone(desk.join((1, 0, 7)))
        self.assertEqual((desk.crowd(), desk.is_at_rest()), ((2, 0, 9), False))
        self.assertIsNone(desk.leave("c"))
        self.assertEqual((desk.crowd(), desk.is_at_rest()), ((2, 0, 8), False))
        self.assertEqual(desk.row(), (("meet", RULE), ("join", (1, 0, 7)), ("leave", "c")))
        self.assertIsNone(desk.undo())
        self.assertEqual((desk.crowd(), desk.row()), ((2, 0, 9), (("meet", RULE), ("join", (1, 0, 7)))))
        desk.undo()
        self.assertEqual((desk.crowd(), desk.row()), ((1, 0, 2), (("meet", RULE),)))
        desk.undo()
        self.assertEqual((desk.crowd(), desk.row(), desk.is_at_rest()), ((2, 1, 0), (), False))
        for _ in range(2):
            with self.assertRaises(NothingDone):
                desk.undo()
        self.assertEqual((desk.crowd(), desk.row()), ((2, 1, 0), ()))

    def test_kinds_of_answers(self):
        desk = Desk(FOLK, (2, 1, 0))
        desk.join((0, 0, 0))
        self.assertEqual([type(value) for value in told(desk)], [tuple, tuple, bool, str])
        self.assertEqual((desk.crowd(), desk.row()), ((2, 1, 0), (("join", (0, 0, 0)),)))

    def test_what_is_done_behind_an_undo(self):
        desk = Desk(FOLK, (2, 1, 0))
        desk.meet(RULE)
        desk.undo()
        desk.meet(("aa", "bc"))
        desk.leave("b")
        self.assertEqual((desk.crowd(), desk.row()), ((0, 1, 1), (("meet", ("aa", "bc")), ("leave", "b"))))
        desk.undo()
        desk.join((1, 1, 1))
        self.assertEqual((desk.crowd(), desk.row()), ((1, 3, 2), (("meet", ("aa", "bc")), ("join", (1, 1, 1)))))

    def test_mixtures_against_the_plain_desk(self):
        dice = random.Random(31)
        for folk in some_folk(60, 32) + one_ended_folk(40, 33):
            crowd = tuple(dice.choice((0, 1, 1, 3)) for _ in folk[0])
            desk, plain = Desk(folk, crowd), PlainDesk(folk, crowd)
            for _ in range(30):
                kind, value = some_deed(dice, folk)
                done = plain.undo() if kind == "undo" else plain.do((kind, value))
                try:
                    getattr(desk, kind)(*[value][:kind != "undo"])
                    self.assertTrue(done)
                except (BadRule, Nobody, NothingDone) as error:
                    self.assertFalse(done)
                    self.assertEqual(type(error), {"meet": BadRule, "leave": Nobody, "undo": NothingDone}[kind])
                self.assertEqual((desk.crowd(), desk.row()), (plain.crowd(), plain.row()))
                self.assertIs(desk.is_at_rest(), not outs(folk, plain.crowd()))
            while plain.undo():
                desk.undo()
                self.assertEqual((desk.crowd(), desk.row()), (plain.crowd(), plain.row()))
            self.assertEqual((desk.crowd(), desk.row()), (crowd, ()))
            with self.assertRaises(NothingDone):
                desk.undo()

    def test_meet_is_met(self):
        dice = random.Random(34)
        for folk in some_folk(80, 35):
            desk = Desk(folk, tuple(dice.choice((0, 2, 5, TOP - 1)) for _ in folk[0]))
            for _ in range(6):
                here = desk.crowd()
                self.assertIs(desk.is_at_rest(), is_at_rest(folk, here))
                for rule in meetings(folk, here):
                    try:
                        behind = met(folk, here, rule)
                    except TooGreat:
                        with self.assertRaises(TooGreat):
                            desk.meet(rule)
                        continue
                    desk.meet(rule)
                    self.assertEqual(desk.crowd(), behind)
                    break

    def test_desks_are_apart(self):
        one, other = Desk(FOLK, (2, 1, 0)), Desk(FOLK, (2, 1, 0))
        one.meet(RULE)
        self.assertEqual((other.crowd(), other.row()), ((2, 1, 0), ()))
        other.leave("a")
        self.assertEqual((one.crowd(), one.row()), ((1, 0, 2), (("meet", RULE),)))

    def test_many_deeds(self):
        desk = Desk(("ab", (("aa", "ab"), ("ab", "aa"))), (2, 0))
        for _ in range(3000):
            desk.meet(("aa", "ab"))
            desk.meet(("ab", "aa"))
        self.assertEqual((desk.crowd(), len(desk.row())), ((2, 0), 6000))
        for _ in range(6000):
            desk.undo()
        self.assertEqual(desk.row(), ())


class TestErrors(unittest.TestCase):
    def assert_nothing_changes(self, desk, error, method, value):
        before = told(desk)
        with self.subTest(method=method, value=shown(value)):
            with self.assertRaises(error):
                getattr(desk, method)(value)
            self.assertEqual(told(desk), before)

    def test_wrong_folk_and_crowds(self):
        for value in odd_values():
            with self.assertRaises(BadFolk):
                Desk(value, (2, 1, 0))
            with self.assertRaises(BadFolk):
                Desk(value, None)
            with self.assertRaises(BadCrowd):
                Desk(FOLK, value)
        for crowd in ((1, 1), (1, 1, 1, 1), [1, 1, 1], (1, -1, 1), (TOP + 1, 0, 0), (True, 1, 1), (1, "1", 1)):
            with self.assertRaises(BadCrowd):
                Desk(FOLK, crowd)
        self.assertEqual(Desk(FOLK, (TOP, TOP, TOP)).crowd(), (TOP, TOP, TOP))

    def test_wrong_values(self):
        desk = Desk(FOLK, (2, 1, 0))
        desk.join((1, 0, 0))
        for value in odd_values():
            self.assert_nothing_changes(desk, BadRule, "meet", value)
            self.assert_nothing_changes(desk, BadCrowd, "join", value)
            if value != "a":
                self.assert_nothing_changes(desk, NoMood, "leave", value)

    def test_rules_that_cannot_be_used(self):
        desk = Desk(("abc", (("ab", "cc"), ("aa", "bc"))), (1, 0, 5))
        for rule in all_rules("abc") + [("ba", "cc"), ["ab", "cc"], ("ab", "cc", "cc"), ("aa", "cb"), "ab", ("ab",)]:
            self.assert_nothing_changes(desk, BadRule, "meet", rule)

    def test_crowds_that_cannot_come(self):
        desk = Desk(FOLK, (2, 1, 0))
        for crowd in ((1, 1), (1, 1, 1, 1), [1, 1, 1], (1, -1, 1), (0, 0, TOP + 1), (0, True, 0), (0, None, 0), {}):
            self.assert_nothing_changes(desk, BadCrowd, "join", crowd)

    def test_moods_that_are_none(self):
        desk = Desk(FOLK, (2, 1, 0))
        for mood in ("d", "", "ab", "abc", "A", "bc", "\u00e4", " ", ("a",), ["a"], 0, 97):
            self.assert_nothing_changes(desk, NoMood, "leave", mood)
        self.assert_nothing_changes(desk, Nobody, "leave", "c")
        desk.leave("b")
        self.assert_nothing_changes(desk, Nobody, "leave", "b")
        empty = Desk(("az", ()), (0, 0))
        for mood in "az":
            self.assert_nothing_changes(empty, Nobody, "leave", mood)
        for mood in "by":
            self.assert_nothing_changes(empty, NoMood, "leave", mood)

    def test_too_great(self):
        for at, crowd in enumerate(((TOP, 0, 0), (0, TOP, 0), (0, 0, TOP))):
            desk = Desk(FOLK, crowd)
            one = tuple(1 if place == at else 0 for place in range(3))
            self.assert_nothing_changes(desk, TooGreat, "join", one)
            self.assert_nothing_changes(desk, TooGreat, "join", (TOP, TOP, TOP))
            others = tuple(0 if place == at else TOP for place in range(3))
            desk.join(others)
            self.assertEqual(desk.crowd(), (TOP, TOP, TOP))
            desk.leave("abc"[at])
            desk.join(one)
            self.assertEqual(desk.crowd(), (TOP, TOP, TOP))
        desk = Desk(FOLK, (1, 1, TOP - 1))
        self.assert_nothing_changes(desk, TooGreat, "meet", RULE)
        desk.leave("c")
        desk.meet(RULE)
        self.assertEqual(desk.crowd(), (0, 0, TOP))

    def test_bad_rule_ahead_of_too_great(self):
        desk = Desk(FOLK, (0, 1, TOP))
        self.assert_nothing_changes(desk, BadRule, "meet", RULE)

    def test_undo_behind_wrong_calls(self):
        desk = Desk(FOLK, (1, 1, 0))
        desk.meet(RULE)
        for method, value in (("meet", RULE), ("join", (1,)), ("leave", "a"), ("leave", "z"), ("join", (0, 0, TOP))):
            with self.assertRaises(FolkError):
                getattr(desk, method)(value)
        desk.undo()
        self.assertEqual((desk.crowd(), desk.row()), ((1, 1, 0), ()))
        with self.assertRaises(NothingDone):
            desk.undo()


class TestWhatIsHandedOn(unittest.TestCase):
    def test_what_row_and_crowd_gave_stays(self):
        desk = Desk(FOLK, (2, 1, 0))
        desk.meet(RULE)
        row, crowd, text = desk.row(), desk.crowd(), desk.text()
        kept = copy.deepcopy((row, crowd, text))
        desk.join((1, 1, 1))
        desk.undo()
        desk.undo()
        desk.leave("a")
        self.assertEqual((row, crowd, text), kept)

    def test_what_was_handed_in_stays(self):
        values = [FOLK, (2, 1, 0), RULE, (1, 1, 1), "a"]
        kept = copy.deepcopy(values)
        desk = Desk(values[0], values[1])
        desk.meet(values[2])
        desk.join(values[3])
        desk.leave(values[4])
        desk.undo()
        self.assertEqual(values, kept)
        wrong = odd_values()
        for value in wrong:
            for method in (desk.meet, desk.join, desk.leave):
                try:
                    method(value)
                except FolkError:
                    pass
        self.assertEqual(wrong, odd_values())

    def test_equal_calls(self):
        desks = [Desk(FOLK, (2, 1, 0)), desk_of("moods abc\nrules ab>cc aa>bc\ncrowd 2 1 0\n")]
        for desk in desks:
            desk.meet(RULE)
            desk.join((0, 3, 0))
        self.assertEqual(told(desks[0]), told(desks[1]))


if __name__ == "__main__":
    unittest.main()
