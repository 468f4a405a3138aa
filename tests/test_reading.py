"""[15]: programs, whether a text is one, and their plain form."""

import unittest

from meetfolk.errors import BadMood, BadMoods, BadRule, FolkError, InvalidText, NotText, Twice, Unknown
from meetfolk.reading import check, printed
from meetfolk.running import run
from tests.programs import KEYS, plain_check, plain_printed, some_programs, spoilt_programs
from tests.values import all_rules, odd_values, shown

WHOLE = "moods ab;rule aa>bb;crowd X=1 b,7 a;join Y=X+X;ask end Y;ask rests;"
PRINTED = "moods ab;\nrule aa > bb;\ncrowd X = 7 a, 1 b;\njoin Y = X + X;\nask end Y;\nask rests;"

# Each place that cannot stand there is marked by a ^, which is no part of the text.
INVALID = (
    # The text begins with moods, and with nothing else.
    "^", " ^", "\n^", "^rule aa>bb;", "^ab", "^;", "^X", "^7", " ^mood ab;", "^moodsab;", "^Moods ab;", "^mOODS ab;",
    " ^x moods ab;", "^mo ods ab;", "^ask rests;moods ab;",
    # The word of moods.
    "moods^", "moods ^", "moods \n ^", "moods ^;", "moods ^X;", "moods ^7;", "moods ^abcdefg;", "moods ^=",
    "moods ab^", "moods ab  ^", "moods ab ^c;", "moods ab^X;", "moods ab^7;", "moods ab ^X;", "moods ab ^,",
    "moods ab ^rule aa>bb;", "moods ^moods;", "moods ^longest;", "moods a^A;", "moods ^moods ab;",
    # What stands where a statement should begin.
    "moods ab;^moods ab;", "moods ab;^;", "moods ab; ^ab;", "moods ab;^X;", "moods ab;^7", "moods ab;^rests;",
    "moods ab;^end X;", "moods ab;^one", "moods ab;^rules aa>bb;", "moods ab;^ruleaa>bb;", "moods ab;\n\n^asks;",
    "moods ab;rule aa>bb;^,", "moods ab;ask one;^one;", "moods ab;^Ask one;",
    # Rules.
    "moods ab;rule^", "moods ab;rule ^", "moods ab;rule ^>bb;", "moods ab;rule ^X>bb;", "moods ab;rule ^7>bb;",
    "moods ab;rule ^abcabca>bb;", "moods ab;rule aa^", "moods ab;rule aa ^;", "moods ab;rule aa ^bb;",
    "moods ab;rule aa^=bb;", "moods ab;rule aa>^", "moods ab;rule aa>^;", "moods ab;rule aa>^>bb;",
    "moods ab;rule aa>^B;", "moods ab;rule aa>b^B;", "moods ab;rule aa>bb^", "moods ab;rule aa>bb\n^",
    "moods ab;rule aa>bb^,", "moods ab;rule aa>bb ^rule bb>ab;", "moods ab;rule aa>^aaaaaaa;",
    "moods ab;rule aa^-bb;", "moods ab;rule^X>bb;",
    # Crowds.
    "moods ab;crowd^", "moods ab;crowd ^x=1 a;", "moods ab;crowd ^7=1 a;", "moods ab;crowd ^=1 a;",
    "moods ab;crowd ^XXXXXXXXX=1 a;", "moods ab;crowd X^", "moods ab;crowd X ^1 a;", "moods ab;crowd X^+1 a;",
    "moods ab;crowd X^1=1 a;", "moods ab;crowd X^x=1 a;", "moods ab;crowd X=^", "moods ab;crowd X=^;",
    "moods ab;crowd X=^a;", "moods ab;crowd X=^Y;", "moods ab;crowd X=^-1 a;", "moods ab;crowd X=^01 a;",
    "moods ab;crowd X=^00 a;", "moods ab;crowd X=^+1 a;", "moods ab;crowd X=1^", "moods ab;crowd X=1 ^;",
    "moods ab;crowd X=^" + "1" * 31 + " a;", "moods ab;crowd X=^" + "0" * 31 + " a;", "moods ab;crowd X=1 ^2 a;",
    "moods ab;crowd X=1^,2 a;", "moods ab;crowd X=1 ^A;", "moods ab;crowd X=1^.5 a;", "moods ab;crowd X=1 a^",
    "moods ab;crowd X=1 a ^b;", "moods ab;crowd X=1 a ^2 b;", "moods ab;crowd X=1 a,^", "moods ab;crowd X=1 a,^;",
    "moods ab;crowd X=1 a,^,2 b;", "moods ab;crowd X=1 a,^b;", "moods ab;crowd X=1 a,2 b^",
    "moods ab;crowd X=1 a,2 b ^X", "moods ab;crowd X=1 a^+2 b;", "moods ab;crowd X=1 ^aaaaaaa;",
    "moods ab;crowd X^,Y=1 a;", "moods ab;crowd X=1 a;^,2 b;", "moods ab;crowd X=1^_000 a;",
    # Joins.
    "moods ab;join^", "moods ab;join ^x=Y+Z;", "moods ab;join ^=Y+Z;", "moods ab;join X^", "moods ab;join X ^Y+Z;",
    "moods ab;join X=^", "moods ab;join X=^;", "moods ab;join X=^1 a+Z;", "moods ab;join X=^y+Z;",
    "moods ab;join X=Y^", "moods ab;join X=Y^;", "moods ab;join X=Y ^Z;", "moods ab;join X=Y^,Z;",
    "moods ab;join X=Y+^", "moods ab;join X=Y+^;", "moods ab;join X=Y+^+Z;", "moods ab;join X=Y+^7;",
    "moods ab;join X=Y+^z;", "moods ab;join X=Y+Z^", "moods ab;join X=Y+Z^+X;", "moods ab;join X=Y+Z ^join",
    "moods ab;join X=Y+^ZZZZZZZZZ;", "moods ab;join X=^YYYYYYYYY+Z;", "moods ab;join ^XXXXXXXXX=Y+Z;",
    "moods ab;join X^+Y=Z;",
    # Asks.
    "moods ab;ask^", "moods ab;ask ^;", "moods ab;ask ^X;", "moods ab;ask ^7;", "moods ab;ask ^ab;",
    "moods ab;ask ^ask;", "moods ab;ask ^moods;", "moods ab;ask ^rule;", "moods ab;ask ^crowd X;",
    "moods ab;ask ^join X;", "moods ab;ask ^restss X;", "moods ab;^askrests;", "moods ab;ask rests^",
    "moods ab;ask one^", "moods ab;ask rests ^X;", "moods ab;ask one ^X;", "moods ab;ask rests^,one;",
    "moods ab;ask end^", "moods ab;ask end^;", "moods ab;ask ends^;", "moods ab;ask longest^;", "moods ab;ask rest^;",
    "moods ab;ask end ^x;", "moods ab;ask end ^7;", "moods ab;ask end ^ends X;", "moods ab;ask end X^",
    "moods ab;ask end X ^Y;", "moods ab;ask end X^,Y;", "moods ab;ask end ^XXXXXXXXX;", "moods ab;ask rest^=X;",
    "moods ab;ask ^shortes X;", "moods ab;ask end X;^X;", "moods ab;ask end X; ^one;", "moods ab;ask longest^X;",
)

# Words, names and numbers that run together: the one that lacks a blank ahead of it cannot stand there.
TOGETHER = (
    "moods ab;crowd^X=1 a;", "moods ab;crowd X=1^a;", "moods ab;crowd X=1 a,2^b;", "moods ab;join^X=X+X;",
    "moods ab;ask end^X;", "moods ab;ask rest^X;", "moods ab;crowd X=7^ab;", "moods ab;crowd X^1=1 a;",
    "moods ab;rule a^A>bb;", "moods a^7;", "moods ab;crowd X=1^A;", "moods ab;ask end X^x;",
)

# Other white space, letters and figures than those of the document, and other signs.
FOREIGN = (
    "moods^\tab;", "^\tmoods ab;", "moods ab;^\t", "moods ab;^\r\nask one;", "moods ab;^\u00a0ask one;",
    "moods^\u2003ab;", "moods ab^\x0b;", "moods ab;^\x00", "moods ab;^\x1f", "moods ab;^\u2028", "^\ufeffmoods ab;",
    "moods ^\u00e4b;", "moods a^\u00e4;", "moods ^\u0430b;", "^\uff4doods ab;", "^m\u00f6ods ab;",
    "moods ab;crowd ^\u00c4=1 a;", "moods ab;crowd X^\u00c4=1 a;", "moods ab;crowd ^\u0391=1 a;",
    "moods ab;crowd X=^\u0663 a;", "moods ab;crowd X=1^\u0663 a;", "moods ab;crowd X=^\uff11 a;",
    "moods ab;crowd X=^\u00b2 a;", "moods ab;crowd X=^\u00bd a;", "moods ab;^?", "moods ab;^#ask one;",
    "moods ab;rule aa^-bb;", "moods ab^:", "moods ^`;", "moods ^{;", "moods ab;crowd ^@=1 a;",
    "moods ab;crowd ^[=1 a;", "moods ab;crowd X=^/ a;", "moods ab;crowd X=^: a;", "moods ab;crowd X=1 a^\uff0c2 b;",
    "moods ab^\uff1b", "moods ab;rule aa^\u203abb;", "moods ab;ask ^\u0131;", "moods ^'ab';", "moods ab;^\ud800",
    "moods ^\U0001f600;", "moods ab;crowd X^\u2066=1 a;", "moods a^_b;",
)

# What is wrong with texts that are made as programs are: the error's name and its field.
WRONG = (
    ("moods ba;", "BadMoods"), ("moods aa;", "BadMoods"), ("moods aab;", "BadMoods"), ("moods abb;", "BadMoods"),
    ("moods abcdfe;", "BadMoods"),
    # A rule that is none of these moods'.
    ("moods z;rule aa>zz;", "BadRule"), ("moods ab;rule a>bb;", "BadRule"), ("moods ab;rule aa>b;", "BadRule"),
    ("moods ab;rule aaa>bb;", "BadRule"), ("moods ab;rule aa>bbb;", "BadRule"), ("moods ab;rule ac>bb;", "BadRule"),
    ("moods ab;rule aa>bz;", "BadRule"), ("moods ab;rule aa>aa;", "BadRule"), ("moods ab;rule ab>ba;", "BadRule"),
    ("moods ab;rule ba>ba;", "BadRule"), ("moods ab;rule abcdef>bb;", "BadRule"),
    # A rule that is told twice.
    ("moods ab;rule aa>bb;rule aa>bb;", "BadRule"), ("moods ab;rule ab>bb;rule ba>bb;", "BadRule"),
    ("moods ab;rule aa>ba;ask one;rule aa>ab;", "BadRule"), ("moods abc;rule ba>ca;rule ab>ac;", "BadRule"),
    # A part's word.
    ("moods ab;crowd X=1 c;", "BadMood"), ("moods ab;crowd X=1 ab;", "BadMood"),
    ("moods ab;crowd X=1 aa;", "BadMood"), ("moods ab;crowd X=0 z;", "BadMood"),
    ("moods ab;crowd X=1 a,1 b,1 c;", "BadMood"), ("moods ac;crowd X=1 b;", "BadMood"),
    # Names.
    ("moods ab;crowd X=1 a;crowd X=1 a;", "Twice X"), ("moods ab;crowd X=1 a;join X=X+X;", "Twice X"),
    ("moods ab;crowd X=1 a;join YY=X+X;crowd YY=1 b;", "Twice YY"),
    ("moods ab;crowd X=1 a;join Y=X+X;join Y=X+X;", "Twice Y"), ("moods ab;join X=Y+Z;", "Unknown Y"),
    ("moods ab;crowd Y=1 a;join X=Y+Z;", "Unknown Z"), ("moods ab;crowd Z=1 a;join X=Y+Z;", "Unknown Y"),
    ("moods ab;join X=X+X;", "Unknown X"), ("moods ab;crowd Y=1 a;join X=Y+X;", "Unknown X"),
    ("moods ab;ask end X;", "Unknown X"), ("moods ab;ask ends X;", "Unknown X"),
    ("moods ab;ask longest X;", "Unknown X"), ("moods ab;ask rest XY;", "Unknown XY"),
    ("moods ab;ask end X;crowd X=1 a;", "Unknown X"), ("moods ab;crowd XX=1 a;ask end X;", "Unknown X"),
    ("moods ab;join X=Y+Y;crowd Y=1 a;", "Unknown Y"),
    # The first one by the order of the text.
    ("moods ba;rule aa>aa;", "BadMoods"), ("moods ba;ask end X;", "BadMoods"),
    ("moods ab;rule aa>aa;crowd X=1 c;", "BadRule"), ("moods ab;crowd X=1 c;rule aa>aa;", "BadMood"),
    ("moods ab;ask end X;rule aa>aa;", "Unknown X"), ("moods ab;rule aa>aa;ask end X;", "BadRule"),
    ("moods ab;crowd X=1 a;crowd X=1 c;", "Twice X"), ("moods ab;crowd X=1 c;crowd X=1 a;", "BadMood"),
    ("moods ab;crowd X=1 a;join X=Y+Z;", "Twice X"), ("moods ab;join X=Y+X;", "Unknown Y"),
    ("moods ab;crowd X=1 a;ask end Y;crowd X=1 a;", "Unknown Y"),
    ("moods ab;crowd X=1 a;crowd X=1 a;ask end Y;", "Twice X"),
    ("moods ab;crowd X=1 a;join Y=X+Z;crowd X=1 a;", "Unknown Z"),
)


def outcome(function, text):
    """The answer, or the name of the error and its fields."""
    try:
        return function(text)
    except InvalidText as error:
        return "InvalidText", error.place
    except (Twice, Unknown) as error:
        return type(error).__name__, error.name
    except FolkError as error:
        return (type(error).__name__,)


def marked(text):
    """The text without its mark, and the index of the mark."""
    return text.replace("^", "", 1), text.index("^")


def rules_of(moods, many):
    """The statements of so many rules."""
    return "".join(f"rule {before}>{behind};" for before, behind in all_rules(moods)[:many])


class TestPlaces(unittest.TestCase):
    def assert_places(self, texts):
        for told in texts:
            text, place = marked(told)
            for function in (check, printed, run):
                with self.subTest(function=function.__name__, text=text):
                    self.assertEqual(outcome(function, text), ("InvalidText", place))

    def test_what_cannot_stand_there(self):
        self.assert_places(INVALID)

    def test_what_runs_together(self):
        self.assert_places(TOGETHER)

    def test_other_signs(self):
        self.assert_places(FOREIGN)

    def test_a_text_that_ends_too_early(self):
        for stop in range(len(WHOLE)):
            # A key that is cut mostly is none any more, and cannot stand there at all.
            cut = WHOLE[:stop][-1:].isalpha() and WHOLE[stop].isalpha()
            for ending in ("", " \n "):
                text = WHOLE[:stop] + ending
                self.assertEqual(outcome(check, text), plain_check(text))
                if not cut:
                    whole = WHOLE[:stop].endswith(";")
                    self.assertEqual(outcome(check, text), None if whole else ("InvalidText", len(text)))

    def test_texts_that_are_too_long(self):
        ends = (";", " ;", "", "?", "\t")
        for beginning in ("moods ab", "moods ab;", "", "?", "moods ba;", "moods ab;ask end X;"):
            for many in (2001, 2002, 3000, 10 ** 5):
                for ending in ends:
                    text = beginning + " " * (many - len(beginning) - len(ending)) + ending
                    self.assertEqual((len(text), outcome(check, text)), (many, ("InvalidText", 2000)))
                    self.assertEqual(outcome(printed, text), ("InvalidText", 2000))
                    self.assertEqual(outcome(run, text), ("InvalidText", 2000))

    def test_texts_of_2000_signs(self):
        text = "moods ab" + " " * 1991 + ";"
        self.assertEqual((len(text), check(text), printed(text)), (2000, None, "moods ab;"))
        self.assertEqual(outcome(check, "moods ab" + " " * 1991 + "?"), ("InvalidText", 1999))
        self.assertEqual(outcome(check, "moods ab" + " " * 1992), ("InvalidText", 2000))
        self.assertEqual(outcome(check, "moods ab" + " " * 1991), ("InvalidText", 1999))
        self.assertEqual(outcome(check, "a" * 2000), ("InvalidText", 0))
        self.assertEqual(outcome(check, "moods ab;" + ";" * 1991), ("InvalidText", 9))

    def test_keys_stand_only_as_told(self):
        for key in KEYS:
            for told in (
                f"moods ^{key};", f"moods ab;rule ^{key}>bb;", f"moods ab;rule aa>^{key};",
                f"moods ab;crowd X=1 ^{key};", f"moods ab;crowd ^{key}=1 a;", f"moods ab;crowd X=^{key} a;",
                f"moods ab;join X=Y+^{key};", f"moods ab;ask end ^{key};",
            ):
                text, place = marked(told)
                with self.subTest(text):
                    self.assertEqual(outcome(check, text), ("InvalidText", place))
            for beginning in ("", "moods ab;", "moods ab;ask "):
                right = {"": ("moods",), "moods ab;": ("rule", "crowd", "join", "ask")}.get(beginning, KEYS[5:])
                place = len(beginning + key) if key in right else len(beginning)
                with self.subTest(beginning + key):
                    self.assertEqual(outcome(check, beginning + key), ("InvalidText", place))

    def test_words_that_are_nearly_keys(self):
        for word in ("mood", "end", "ends", "enda", "rest", "resta", "onea", "asks", "rul", "longes", "rests", "joins"):
            error = "InvalidText" if word in KEYS else "BadMood"
            self.assertEqual(outcome(check, f"moods ab;crowd X=1 {word};")[0], error)

    def test_invalid_text_is_ahead_of_all_else(self):
        for text, _ in WRONG:
            with self.subTest(text):
                self.assertEqual(outcome(check, text + "?"), ("InvalidText", len(text)))
                self.assertEqual(outcome(check, text + "\nrule"), ("InvalidText", len(text) + 5))
                self.assertEqual(outcome(run, text[:-1]), ("InvalidText", len(text) - 1))


class TestErrors(unittest.TestCase):
    def test_not_text(self):
        for value in odd_values():
            for function in (check, printed, run):
                told = InvalidText if isinstance(value, str) else NotText
                with self.subTest(function=function.__name__, value=shown(value)), self.assertRaises(told):
                    function(value)

    def test_what_is_wrong_by_the_order_of_the_text(self):
        for text, error in WRONG:
            for function in (check, printed, run):
                with self.subTest(function=function.__name__, text=text):
                    self.assertEqual(outcome(function, text), tuple(error.split()))

    def test_the_errors_themselves(self):
        for text, error in (
            ("moods ba;", BadMoods), ("moods ab;rule aa>aa;", BadRule), ("moods ab;crowd X=1 c;", BadMood),
            (3, NotText),
        ):
            with self.assertRaises(error):
                check(text)

    def test_twelve_rules_and_the_thirteenth(self):
        moods = "moods abcdef;"
        self.assertIsNone(check(moods + rules_of("abcdef", 12)))
        self.assertEqual(outcome(check, moods + rules_of("abcdef", 13)), ("BadRule",))
        twelve = rules_of("abcdef", 12)
        self.assertEqual(outcome(check, moods + twelve + "ask one;rule ef>ff;"), ("BadRule",))
        self.assertEqual(outcome(check, moods + twelve + "ask end X;rule ef>ff;"), ("Unknown", "X"))
        self.assertEqual(outcome(check, moods + twelve + "rule ef>ff;ask end X;"), ("BadRule",))

    def test_moods(self):
        for moods in ("a", "z", "ab", "az", "abcdef", "uvwxyz"):
            self.assertIsNone(check(f"moods {moods};"))

    def test_against_the_plain_reading(self):
        for text in some_programs(700, 15) + spoilt_programs(3000, 16):
            with self.subTest(text):
                told = plain_check(text)
                self.assertEqual(outcome(check, text), told)
                self.assertEqual(outcome(printed, text), plain_printed(text) if told is None else told)


class TestPrinted(unittest.TestCase):
    def test_check_tells_none(self):
        self.assertIsNone(check(WHOLE))

    def test_every_kind_of_statement(self):
        self.assertEqual(printed(WHOLE), PRINTED)
        text = "moods abc;ask rests;ask one;crowd X=1 a;ask end X;ask ends X;ask longest X;ask rest X;"
        self.assertEqual(printed(text), text.replace(";", ";\n").replace("=", " = ")[:-1])

    def test_no_statement_behind_moods(self):
        for text in ("moods ab;", " \nmoods\n\n ab \n;\n", "moods\nab;"):
            self.assertEqual((check(text), printed(text), run(text)), (None, "moods ab;", ()))

    def test_blanks_and_line_ends_at_every_place(self):
        pieces = "moods ab ; rule aa > bb ; crowd X = 1 b , 7 a ; join Y = X + X ; ask end Y ; ask rests ;".split()
        for blank in (" ", "\n", "  ", " \n", "\n\n \n"):
            self.assertEqual(printed(blank.join(pieces)), PRINTED)
            for at in range(len(pieces) + 1):
                ahead, behind = " ".join(pieces[:at]), " ".join(pieces[at:])
                self.assertEqual(printed(ahead + blank + behind), PRINTED)

    def test_none_where_none_is_needed(self):
        self.assertEqual(printed("moods ab;rule ba>aa;ask one;"), "moods ab;\nrule ab > aa;\nask one;")
        self.assertEqual(printed("moods ab;crowd X=1 a,2 b;"), "moods ab;\ncrowd X = 1 a, 2 b;")
        self.assertEqual(printed("moods\nab;crowd\nX=1\na;"), "moods ab;\ncrowd X = 1 a;")

    def test_parts_are_put_together(self):
        for parts, told in (
            ("1 b,7 a", "7 a, 1 b"), ("1 a,2 b,3 a", "4 a, 2 b"), ("0 a", "0 a"), ("0 b", "0 a"), ("0 c,0 b", "0 a"),
            ("0 a,2 c", "2 c"), ("1 c,0 a,1 c", "2 c"), ("3 a,0 b,1 c", "3 a, 1 c"), ("0 b,5 b", "5 b"),
            ("1 a,1 a,1 a,1 a", "4 a"), ("9" * 30 + " b", "9" * 30 + " b"), ("1" + "0" * 29 + " a", f"{10 ** 29} a"),
            ("9" * 30 + " b,1 b", f"{10 ** 30} b"),
        ):
            with self.subTest(parts):
                self.assertEqual(printed(f"moods abc;crowd X={parts};"), f"moods abc;\ncrowd X = {told};")

    def test_more_than_30_figures_are_printed_but_no_program(self):
        text = printed("moods ab;crowd X=" + "9" * 30 + " b," + "9" * 30 + " b;")
        self.assertEqual(text, "moods ab;\ncrowd X = 1" + "9" * 29 + "8 b;")
        self.assertEqual(outcome(check, text), ("InvalidText", text.index("19")))
        self.assertEqual(outcome(printed, text), ("InvalidText", text.index("19")))

    def test_more_than_a_crowd_can_have_is_no_error_here(self):
        names = "XABCDEFGHIJKLMNOPQRSTUVWYZ"
        joins = "".join(f"join {two}={one}+{one};" for one, two in zip(names, names[1:]))
        for ending in ("", "ask end Z;"):
            text = "moods ab;crowd X=" + ",".join(["9" * 30 + " a"] * 40) + ";" + joins + ending
            self.assertLessEqual(len(text), 2000)
            self.assertIsNone(check(text))
            self.assertIn("crowd X = " + str(40 * (10 ** 30 - 1)) + " a;", printed(text))

    def test_words_of_rules_with_their_letters_turned(self):
        self.assertEqual(printed("moods abc;rule ba>ca;rule cb>aa;"), "moods abc;\nrule ab > ac;\nrule bc > aa;")

    def test_names_of_eight_letters_and_words_of_six(self):
        text = "moods abcdef;\ncrowd ABCDEFGH = 1 f;\nask rest ABCDEFGH;"
        self.assertEqual(printed(text), text)

    def test_printed_of_what_is_printed(self):
        for text in some_programs(300, 17):
            if plain_check(text) is None:
                told = printed(text)
                if len(told) <= 2000 and plain_check(told) is None:
                    self.assertEqual(printed(told), told)
        self.assertEqual(printed(PRINTED), PRINTED)


if __name__ == "__main__":
    unittest.main()
