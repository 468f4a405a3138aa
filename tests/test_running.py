"""[16]: the answers to what programs ask."""

import random
import unittest

from meetfolk.choosing import longest
from meetfolk.crowds import is_at_rest
from meetfolk.ending import end, ends, is_one_ended
from meetfolk.errors import FolkError, InvalidText, ManyEnds, NeverRests, TooGreat, TooMany
from meetfolk.reading import check, printed
from meetfolk.resting import always_rests
from meetfolk.running import run
from tests.plain import one_ended_folk, plain_ends, plain_leaps
from tests.programs import plain_check, plain_statements, some_programs
from tests.values import some_folk

TOP = 10 ** 40
NINES = "9" * 30

# Rules of folk that never rest, of folk with many ends, and of folk that make two leaps for each a beside one t.
RING = "rule ab>cc;rule cc>ab;"
MANY = "rule ab>cc;rule aa>bc;"
WORKER = "moods abctu;rule at>bu;rule bu>ct;"


def with_rules(folk):
    """The beginning of a program that tells the folk."""
    return f"moods {folk[0]};" + "".join(f"rule {before}>{behind};" for before, behind in folk[1])


def with_crowd(moods, name, crowd):
    """The statement of a crowd."""
    return f"crowd {name}=" + ",".join(f"{many} {mood}" for many, mood in zip(crowd, moods)) + ";"


def raised(function, *values):
    """The error that is raised and its fields, or the answer."""
    try:
        return function(*values)
    except FolkError as error:
        return type(error).__name__, getattr(error, "most", None)


def by_hand(text):
    """The answers to a program that check takes, or the first error, with the functions of other modules."""
    statements = plain_statements(text)
    moods, rules, crowds, answers = statements[0][1], (), {}, []
    asked = {
        "rests": always_rests, "one": is_one_ended, "end": end, "ends": ends, "longest": longest, "rest": is_at_rest,
    }
    for key, *words in statements[1:]:
        if key == "rule":
            rules += (tuple("".join(sorted(word)) for word in words),)
        elif key == "crowd":
            parts = list(zip(words[1::2], words[2::2]))
            crowds[words[0]] = tuple(sum(int(many) for many, own in parts if own == mood) for mood in moods)
        elif key == "join":
            crowds[words[0]] = tuple(sum(both) for both in zip(crowds[words[1]], crowds[words[2]]))
        else:
            answers.append(asked[words[0]]((moods, rules), *[crowds[name] for name in words[1:]]))
        if key in ("crowd", "join") and max(crowds[words[0]]) > TOP:
            raise TooGreat()
    return tuple(answers)


class TestAnswers(unittest.TestCase):
    def test_no_ask(self):
        for text in ("moods ab;", "moods ab;rule aa>bb;", "moods ab;rule aa>bb;crowd X=1 a;join Y=X+X;"):
            self.assertEqual(run(text), ())

    def test_each_question(self):
        text = "moods ab;rule aa>bb;crowd X=7 a,1 b;crowd Y=1 a,7 b;"
        for asked, told in (
            ("rests", True), ("one", True), ("end X", (1, 7)), ("ends X", ((1, 7),)), ("longest X", 3),
            ("rest X", False), ("end Y", (1, 7)), ("ends Y", ((1, 7),)), ("longest Y", 0), ("rest Y", True),
        ):
            found = run(f"{text}ask {asked};")
            self.assertEqual(found, (told,))
            self.assertIs(type(found[0]), type(told))

    def test_questions_of_folk_with_many_ends(self):
        text = "moods abc;" + MANY + "crowd X=2 a,1 b;crowd Y=3 a;"
        text += "ask rests;ask one;ask ends X;ask longest Y;ask rest X;ask ends Y;"
        self.assertEqual(run(text), (True, False, ((1, 0, 2), (0, 2, 1)), 2, False, ((0, 0, 3),)))

    def test_questions_of_folk_that_never_rest(self):
        text = "moods abc;" + RING + "crowd X=1 a,1 b;crowd Y=5 b;ask rests;ask rest X;ask rest Y;"
        self.assertEqual(run(text), (False, False, True))

    def test_rules_behind_an_ask(self):
        text = "moods abc;crowd X=2 a;ask end X;rule aa>bb;ask end X;rule bb>cc;ask end X;ask rest X;"
        text += "rule cc>aa;ask rests;"
        self.assertEqual(run(text), ((2, 0, 0), (0, 2, 0), (0, 0, 2), False, False))
        text = "moods abc;ask rests;ask one;rule ab>cc;ask rests;ask one;rule aa>bc;ask one;rule cc>ab;ask rests;"
        self.assertEqual(run(text), (True, True, True, True, False, False))
        self.assertEqual(run("moods ab;crowd X=2 a;ask rest X;rule aa>bb;"), (True,))
        self.assertEqual(run("moods ab;crowd X=2 a;ask end X;rule aa>bb;rule bb>aa;"), ((2, 0),))

    def test_rules_with_their_letters_turned(self):
        self.assertEqual(run("moods abc;rule ba>cc;crowd X=1 a,1 b;ask end X;"), ((0, 0, 2),))
        self.assertEqual(run("moods abc;rule cc>ba;crowd X=2 c;ask end X;"), ((1, 1, 0),))

    def test_the_order_of_the_rules_is_that_of_the_text(self):
        for rules in (("aa>bb", "aa>cc"), ("aa>cc", "aa>bb")):
            text = "moods abc;" + "".join(f"rule {rule};" for rule in rules) + "crowd X=2 a;ask ends X;ask longest X;"
            self.assertEqual(run(text), (((0, 2, 0), (0, 0, 2)), 1))

    def test_joins(self):
        self.assertEqual(run("moods ab;rule aa>bb;crowd X=1 a;join Y=X+X;ask end X;ask end Y;"), ((1, 0), (0, 2)))
        text = "moods abc;crowd X=1 a,2 b;crowd Y=3 b,5 c;join Z=X+Y;join YY=Z+X;join ZZ=Y+Z;"
        text += "ask end Z;ask end YY;ask end ZZ;"
        self.assertEqual(run(text), ((1, 5, 5), (2, 7, 5), (1, 8, 10)))

    def test_parts_that_add_up(self):
        self.assertEqual(run("moods ab;crowd X=1 b,2 a,3 b,0 a;ask end X;"), ((2, 4),))
        self.assertEqual(run(f"moods ab;crowd X={NINES} a,1 a;ask end X;"), ((10 ** 30, 0),))
        text = "moods ab;crowd X=0 b;ask end X;ask ends X;ask longest X;ask rest X;"
        self.assertEqual(run(text), ((0, 0), ((0, 0),), 0, True))

    def test_great_crowds(self):
        text = f"moods ab;rule aa>bb;crowd X={NINES} a;ask end X;ask rest X;"
        self.assertEqual(run(text), ((1, 10 ** 30 - 2), False))

    def test_the_same_question_again(self):
        self.assertEqual(run("moods ab;rule aa>bb;crowd X=2 a;" + "ask end X;" * 190), ((0, 2),) * 190)

    def test_against_the_functions_themselves(self):
        seen = set()
        for text in some_programs(2500, 21):
            if plain_check(text) is None:
                told = raised(by_hand, text)
                with self.subTest(text):
                    self.assertEqual(raised(run, text), told)
                    self.assertEqual(raised(run, text), raised(run, text))
                seen.add(told[0] if told and isinstance(told[0], str) else "answers")
        self.assertLessEqual({"answers", "NeverRests", "ManyEnds", "TooMany"}, seen)

    def test_small_crowds_against_the_plain_reckoning(self):
        dice = random.Random(22)
        for folk in one_ended_folk(60, 23):
            crowd = tuple(dice.choice((0, 0, 1, 2)) for _ in folk[0])
            text = with_rules(folk) + with_crowd(folk[0], "X", crowd)
            if sum(crowd) <= 5 and len(text) <= 1900:
                last = plain_leaps(folk, crowd)[1]
                self.assertEqual({last}, plain_ends(folk, crowd))
                self.assertEqual(run(text + "ask end X;ask ends X;ask rest X;"), (last, (last,), last == crowd))

    def test_what_is_printed_runs_the_same(self):
        for text in some_programs(300, 24):
            if plain_check(text) is None and len(printed(text)) <= 2000 and plain_check(printed(text)) is None:
                self.assertEqual(raised(run, printed(text)), raised(run, text))

    def test_rests_and_one_of_many_folk(self):
        for folk in some_folk(60, 25):
            text = with_rules(folk) + "ask rests;"
            self.assertEqual(run(text), (always_rests(folk),))
            if always_rests(folk):
                self.assertEqual(run(text + "ask one;"), (True, is_one_ended(folk)))


class TestErrors(unittest.TestCase):
    def assert_error(self, text, error, most=None):
        check(text)
        with self.subTest(text), self.assertRaises(error) as caught:
            run(text)
        self.assertEqual(getattr(caught.exception, "most", None), most)

    def test_never_rests(self):
        text = "moods abc;" + RING + "crowd X=1 a;crowd Y=9 a;"
        for asked in ("one", "end X", "ends X", "longest X", "end Y", "ends Y", "longest Y"):
            self.assert_error(f"{text}ask {asked};", NeverRests)

    def test_many_ends(self):
        text = "moods abc;" + MANY + "crowd X=1 c;crowd Y=9 a;"
        for name in "XY":
            self.assert_error(f"{text}ask end {name};", ManyEnds)

    def test_too_many_folk(self):
        text = "moods abc;" + MANY + "crowd X=4 a,4 b;crowd Y=4 a,4 b,1 c;crowd Z=9 c;"
        self.assertEqual(len(run(f"{text}ask ends X;ask longest X;")), 2)
        for asked in ("ends Y", "longest Y", "ends Z", "longest Z"):
            self.assert_error(f"{text}ask {asked};", TooMany, 8)

    def test_too_many_leaps(self):
        self.assertEqual(run(WORKER + "crowd X=2500 a,1 t;ask end X;"), ((0, 0, 2500, 1, 0),))
        for crowd in ("2501 a,1 t", "2500 a,1 b,1 u", f"{NINES} a,1 t"):
            self.assert_error(f"{WORKER}crowd X={crowd};ask one;ask end X;", TooMany, 5000)
            self.assertEqual(run(f"{WORKER}crowd X={crowd};ask one;ask rest X;"), (True, False))

    def test_great_parts(self):
        # The parts of one crowd never come to 10 ** 40 within 2000 signs: that takes joins.
        text = "moods ab;crowd X=" + ",".join([f"{NINES} a"] * 50) + ";"
        self.assertEqual(run(text + "ask end X;"), ((50 * (10 ** 30 - 1), 0),))

    def test_too_great_by_parts_and_joins(self):
        names = [one + two for one in "ABCDEF" for two in "ABCDEF"]
        joins = [f"join {two}={one}+{one};" for one, two in zip(names, names[1:])]
        # 20 parts doubled 29 times are more than 10 ** 40, 18 are not.
        for parts, error in ((18, None), (19, TooGreat), (20, TooGreat)):
            text = "moods ab;crowd AA=" + ",".join([f"{NINES} b"] * parts) + ";" + "".join(joins[:29])
            self.assertEqual(parts * (10 ** 30 - 1) * 2 ** 29 > TOP, error is not None)
            if error:
                self.assert_error(text, error)
            else:
                self.assertEqual(run(text), ())

    def test_too_great_by_joins(self):
        # 10 ** 29 doubled 36 times is less than 10 ** 40, doubled 37 times it is more.
        names = [one + two for one in "ABCDEFG" for two in "ABCDEFG"]
        joins = [f"join {two}={one}+{one};" for one, two in zip(names, names[1:])]
        for mood, other in ("ab", "ba"):
            text = f"moods ab;crowd AA=1{'0' * 29} {mood},1 {other};"
            many = 10 ** 29 * 2 ** 36
            self.assertTrue(many <= TOP < 2 * many)
            good = text + "".join(joins[:36]) + f"ask end {names[36]};"
            told = {mood: many, other: 2 ** 36}
            self.assertEqual(run(good), ((told["a"], told["b"]),))
            self.assert_error(text + "".join(joins[:37]), TooGreat)
            self.assert_error(text + "".join(joins[:37]) + "ask rests;", TooGreat)
            self.assert_error(text + "".join(joins), TooGreat)

    def test_just_as_many_as_a_crowd_can_have(self):
        # 5 ** 40, doubled 40 times, is 10 ** 40.
        names = [one + two for one in "ABCDEFG" for two in "ABCDEFG"]
        joins = "".join(f"join {two}={one}+{one};" for one, two in zip(names[:40], names[1:]))
        text = f"moods ab;crowd AA={5 ** 40} a;{joins}"
        self.assertEqual(run(f"{text}ask rest {names[40]};ask end {names[40]};"), (True, (TOP, 0)))
        self.assert_error(f"{text}crowd X=1 a;join Y=X+{names[40]};", TooGreat)
        self.assertEqual(run(f"{text}crowd X=1 b;join Y=X+{names[40]};ask end Y;"), ((TOP, 1),))
        self.assertEqual(run(f"{text}rule ab>aa;crowd X=0 b;join Y=X+{names[40]};ask end Y;"), ((TOP, 0),))
        self.assert_error(f"{text}rule ab>aa;crowd X=1 b;join Y=X+{names[40]};ask end Y;", TooGreat)

    def test_the_first_error_by_the_order_of_the_text(self):
        great = "crowd A=" + "9" * 30 + " a;" + "".join(
            f"join {two}={one}+{one};" for one, two in zip("ABCDEFGHIJKLMNOPQRSTUVWXYZ", "BCDEFGHIJKLMNOPQRSTUVWXYZ")
        )
        names = ["Z"] + ["Z" + other for other in "ABCDEFGHIJKL"]
        great += "".join(f"join {two}={one}+{one};" for one, two in zip(names, names[1:]))
        self.assert_error("moods abc;" + great, TooGreat)
        self.assert_error("moods abc;" + RING + great + "ask one;", TooGreat)
        self.assert_error("moods abc;" + RING + "ask one;" + great, NeverRests)
        self.assert_error("moods abc;" + MANY + "crowd AAA=9 a;ask ends AAA;ask end AAA;" + great, TooMany, 8)
        self.assert_error("moods abc;" + MANY + "crowd AAA=9 a;ask end AAA;ask ends AAA;" + great, ManyEnds)
        self.assert_error("moods abc;" + MANY + "ask one;crowd AAA=9 a;rule cc>ab;ask ends AAA;", NeverRests)
        self.assert_error("moods abc;" + MANY + "crowd AAA=9 a;ask longest AAA;rule cc>ab;ask one;", TooMany, 8)

    def test_errors_of_check_ahead_of_all(self):
        text = "moods abc;" + RING + "ask one;"
        for wrong, place in (("?", len(text)), ("ask", len(text) + 3)):
            with self.assertRaises(InvalidText) as caught:
                run(text + wrong)
            self.assertEqual(caught.exception.place, place)
        for wrong, error in (("rule aa>aa;", "BadRule"), ("crowd X=1 z;", "BadMood"), ("ask end X;", "Unknown")):
            self.assertEqual(raised(run, text + wrong)[0], error)


if __name__ == "__main__":
    unittest.main()
