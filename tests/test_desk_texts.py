"""[17]: the texts of desks, there and back."""

import random
import re
import unittest

from meetfolk.crowds import is_folk
from meetfolk.desks import Desk, desk_of
from meetfolk.errors import InvalidDesk, NotText, NothingDone
from tests.values import odd_values, shown, some_folk

TEXT = "moods ab\nrules aa>bb ab>bb\ncrowd 3 10\n"
TOP = 10 ** 40

# Lines that cannot stand at each of the three places, ahead of a line end.
NO_MOODS = (
    "", "moods", "moods ", "moods ba", "moods aa", "moods abcdefg", "moods a b", "moods  ab", "moods ab ", " moods ab",
    "moods\tab", "moods AB", "Moods ab", "MOODS ab", "mood ab", "moodsab", "moods a1", "moods \u00e4", "moods \u0430b",
    "moods ab\r", "moods ab\x0b", "moods ab\u2028", "moods ab\u00a0", "moods\u00a0ab", "ab", "moods ab;", "moods: ab",
    "rules aa>bb ab>bb", "crowd 3 10", "moods ab rules", "moods 0", "moods (ab)", "\ufeffmoods ab",
)
NO_RULES = (
    "", "rules ", "rules  aa>bb", "rules aa>bb ", "rules aa>bb  ab>bb", " rules aa>bb", "rule aa>bb", "Rules aa>bb",
    "rules\taa>bb", "rules aa>bb\tab>bb", "rules aa > bb", "rules aa>", "rules >bb", "rules >", "rules aa", "rules aabb",
    "rules aa>>bb", "rules aa>bbb", "rules aaa>bb", "rules a>bb", "rules aa>b", "rules aa-bb", "rules aa=bb", "rulesaa>bb",
    "rules aa>aa", "rules ba>bb", "rules aa>ba", "rules aa>bc", "rules ac>bb", "rules aa>bb aa>bb", "rules aa>bb,ab>bb",
    "rules aa>bb;", "rules AA>BB", "rules aa>bb\r", "rules \u00e4\u00e4>bb", "rules aa\uff1ebb", "rules aa>bb ab>bb x",
    "rules 0", "moods ab", "crowd 3 10", "rules aa>bb ab", "rules aa>bb ab>", "rules\u00a0aa>bb", "rules aa>bb\u2003ab>bb",
)
NO_CROWDS = (
    "", "crowd", "crowd ", "crowd 3", "crowd 3 ", "crowd 3 10 ", " crowd 3 10", "crowd  3 10", "crowd 3  10", "crowd 3 10 0",
    "crowd\t3 10", "crowd 3\t10", "crowd3 10", "crowds 3 10", "Crowd 3 10", "crowd 03 10", "crowd 3 010", "crowd 00 10",
    "crowd 3 00", "crowd -3 10", "crowd 3 -1", "crowd -0 10", "crowd +3 10", "crowd 3.0 10", "crowd 3, 10", "crowd 3,10",
    "crowd (3, 10)", "crowd a 10", "crowd 3 b", "crowd 3 1_0", "crowd 0x3 10", "crowd 3 1e1", "crowd \u0663 10",
    "crowd 3 1\u0660", "crowd \uff13 10", "crowd \u00b3 10", "crowd 3 \u00bd", "crowd 3 10\r", "crowd 3\u00a010", "crowd 3 10\x0c",
    f"crowd {TOP + 1} 0", f"crowd 0 {TOP + 1}", f"crowd 0 {10 ** 41}", "crowd 0 " + "9" * 5000, "crowd 3 " + "0" * 41,
    "crowd None 10", "crowd True 10", "moods ab", "rules aa>bb", "crowd 3 10;", "crowd 3 10 crowd", "crowd \u2167 10",
)


def at_of(value):
    """The index that InvalidDesk tells, None if there is a desk."""
    try:
        desk_of(value)
        return None
    except InvalidDesk as error:
        return error.at


def plain_at(text):
    """The same by a plain reading: each line by an expression, then by what it tells."""
    lines = text.split("\n")[:-1]
    moods = re.fullmatch(r"moods ([a-z]{1,6})", lines[0]) if lines else None
    if not moods or not is_folk((moods[1], ())):
        return 0
    rules = re.fullmatch(r"rules((?: [a-z]{2}>[a-z]{2})*)", lines[1]) if len(lines) > 1 else None
    if not rules or not is_folk((moods[1], tuple(tuple(rule.split(">")) for rule in rules[1].split()))):
        return 1
    number = r"(?:0|[1-9][0-9]*)"
    crowd = re.fullmatch(rf"crowd((?: {number}){{{len(moods[1])}}})", lines[2]) if len(lines) > 2 else None
    if not crowd or any(len(many) > 41 or int(many) > TOP for many in crowd[1].split()):
        return 2
    return 3 if text.split("\n")[3:] != [""] else None


class TestTexts(unittest.TestCase):
    def test_texts_of_desks(self):
        for folk, crowd, text in (
            (("a", ()), (0,), "moods a\nrules\ncrowd 0\n"),
            (("ab", (("aa", "bb"), ("ab", "bb"))), (3, 10), TEXT),
            (("ab", (("ab", "bb"), ("aa", "bb"))), (3, 10), "moods ab\nrules ab>bb aa>bb\ncrowd 3 10\n"),
            (("bxz", (("xz", "bb"),)), (TOP, 0, 1), f"moods bxz\nrules xz>bb\ncrowd {TOP} 0 1\n"),
            (("abcdef", ()), (1, 2, 3, 4, 5, 6), "moods abcdef\nrules\ncrowd 1 2 3 4 5 6\n"),
        ):
            with self.subTest(text):
                self.assertEqual(Desk(folk, crowd).text(), text)
                desk = desk_of(text)
                self.assertIs(type(desk), Desk)
                self.assertEqual((desk.crowd(), desk.row(), desk.text()), (crowd, (), text))

    def test_there_and_back(self):
        dice = random.Random(41)
        for folk in some_folk(200, 42):
            crowd = tuple(dice.choice((0, 1, 9, 10, TOP, dice.randrange(TOP))) for _ in folk[0])
            text = Desk(folk, crowd).text()
            self.assertEqual(text.count("\n"), 3)
            desk = desk_of(text)
            self.assertEqual((desk.crowd(), desk.text(), desk.row()), (crowd, text, ()))
            self.assertIsNone(plain_at(text))

    def test_the_crowd_as_it_is(self):
        desk = desk_of(TEXT)
        desk.meet(("aa", "bb"))
        self.assertEqual(desk.text(), "moods ab\nrules aa>bb ab>bb\ncrowd 1 12\n")
        desk.join((9, 0))
        desk.leave("b")
        self.assertEqual(desk.text(), "moods ab\nrules aa>bb ab>bb\ncrowd 10 11\n")
        other = desk_of(desk.text())
        self.assertEqual((other.crowd(), other.row()), ((10, 11), ()))
        with self.assertRaises(NothingDone):
            other.undo()
        desk.undo()
        self.assertEqual((other.crowd(), desk.crowd()), ((10, 11), (10, 12)))

    def test_a_desk_of_a_text_is_used_on(self):
        desk = desk_of(TEXT)
        desk.meet(("ab", "bb"))
        desk.meet(("aa", "bb"))
        self.assertEqual((desk.crowd(), desk.is_at_rest()), ((0, 13), True))
        self.assertEqual(desk.row(), (("meet", ("ab", "bb")), ("meet", ("aa", "bb"))))
        desk.undo()
        desk.undo()
        self.assertEqual((desk.crowd(), desk.row()), ((3, 10), ()))
        with self.assertRaises(NothingDone):
            desk.undo()


class TestErrors(unittest.TestCase):
    def test_no_text(self):
        for value in odd_values():
            told = InvalidDesk if isinstance(value, str) else NotText
            with self.subTest(shown(value)), self.assertRaises(told):
                desk_of(value)

    def test_lines_that_cannot_stand_there(self):
        lines = TEXT.split("\n")[:3]
        for at, wrong in enumerate((NO_MOODS, NO_RULES, NO_CROWDS)):
            for line in wrong:
                text = "\n".join(lines[:at] + [line] + lines[at + 1:]) + "\n"
                with self.subTest(text):
                    self.assertEqual(at_of(text), at)
                    self.assertEqual(plain_at(text), at)
                # Whatever else comes behind the first wrong line.
                for behind in ("", "\n", "\nmoods\n", "\nx", "\n\n\n\n\n"):
                    text = "\n".join(lines[:at] + [line]) + behind
                    with self.subTest(text):
                        self.assertEqual(at_of(text), at)

    def test_a_text_that_ends_too_early(self):
        for stop in range(len(TEXT)):
            text = TEXT[:stop]
            with self.subTest(text):
                self.assertEqual(at_of(text), text.count("\n"))
        for text, at in (("", 0), ("moods ab", 0), ("moods ab\n", 1), ("moods ab\nrules", 1), ("moods ab\nrules\n", 2)):
            self.assertEqual(at_of(text), at)

    def test_what_stands_behind_the_last_line_end(self):
        for behind in (" ", "\n", "x", "x\n", "crowd 3 10\n", "moods ab\n", "\n\n", "\r", "\t", "0", TEXT):
            with self.subTest(behind):
                self.assertEqual(at_of(TEXT + behind), 3)
        self.assertEqual(at_of("\n" + TEXT), 0)
        self.assertEqual(at_of(" " + TEXT), 0)

    def test_a_line_too_many(self):
        lines = TEXT.split("\n")[:3]
        for at in range(4):
            for line in lines + ["", " "]:
                text = "\n".join(lines[:at] + [line] + lines[at:]) + "\n"
                told = [wrong for wrong in range(4) if text.split("\n")[wrong:wrong + 1] != lines[wrong:wrong + 1]]
                self.assertEqual(at_of(text), told[0])

    def test_other_line_ends(self):
        for end in ("\r\n", "\r", "\x0b", "\x0c", "\u2028", "\u0085", "\n\n", " \n", "\n "):
            self.assertEqual(at_of(TEXT.replace("\n", end)), {"\n\n": 1, "\n ": 1}.get(end, 0))
            self.assertEqual(at_of(TEXT[:-1].replace("\n", "\n") + end), {"\n\n": 3, "\n ": 3}.get(end, 2))

    def test_numbers_and_rules_at_the_edges(self):
        self.assertIsNone(at_of(f"moods ab\nrules\ncrowd {TOP} 0\n"))
        self.assertEqual(at_of(f"moods ab\nrules\ncrowd {TOP + 1} 0\n"), 2)
        rules = [f"{one}>{two}" for one in ("aa", "ab", "ac", "bb") for two in ("bc", "cc", "ad", "dd")]
        self.assertIsNone(at_of(f"moods abcd\nrules {' '.join(rules[:12])}\ncrowd 0 0 0 0\n"))
        self.assertEqual(at_of(f"moods abcd\nrules {' '.join(rules[:13])}\ncrowd 0 0 0 0\n"), 1)

    def test_spoilt_texts_against_the_plain_reading(self):
        dice = random.Random(43)
        signs = [" ", "\n", "a", "b", "c", ">", "0", "1", "\t", "\r", "moods", "rules", "crowd", "\u0663", "-", "A"]
        right = 0
        for folk in some_folk(500, 44):
            text = Desk(folk, tuple(dice.choice((0, 7, 10, TOP)) for _ in folk[0])).text()
            for _ in range(6):
                at, many = dice.randint(0, len(text)), dice.choice((0, 0, 1, 2))
                spoilt = text[:at] + dice.choice(signs + [""]) + text[at + many:]
                with self.subTest(spoilt):
                    self.assertEqual(at_of(spoilt), plain_at(spoilt))
                right += plain_at(spoilt) is None
        self.assertGreater(right, 100)


if __name__ == "__main__":
    unittest.main()
