"""[6] and [7]: the ends of crowds, and papers on ends."""

import itertools
import unittest

from meetfolk.ending import ends, ends_paper, is_one_ended, judged_ends, parting
from meetfolk.errors import BadCrowd, BadFolk, NeverRests, TooMany
from meetfolk.resting import always_rests
from tests.plain import all_behind, all_rows, crowds, in_order, letters, one_ended_folk, outs, plain_ends
from tests.values import all_rules, odd_values, shown, some_folk

ONE = ("ab", (("aa", "bb"),))
MANY = ("abc", (("ab", "cc"), ("aa", "bc")))
RING = ("abc", (("ab", "cc"), ("cc", "ab")))
TOP = 10 ** 40

ONE_ENDED = (
    ("a", ()), ("abcdef", ()), ONE, ("ab", (("aa", "ab"),)), ("ab", (("aa", "bb"), ("aa", "ab"), ("ab", "bb"))),
    ("abc", (("ab", "cc"),)), ("abc", (("ab", "cc"), ("aa", "bc"), ("bb", "ac"))), ("abctu", (("at", "bu"), ("bu", "ct"))),
    ("abcdef", (("aa", "bf"), ("bb", "cf"), ("cc", "df"), ("dd", "ef"), ("ee", "ff"))),
)

# Folk with more than one end, and the least crowd that has more.
PARTED = (
    (MANY, (2, 1, 0)), (("abc", (("aa", "bb"), ("aa", "cc"))), (2, 0, 0)), (("abc", (("aa", "bc"), ("ab", "cc"))), (2, 1, 0)),
    # A crowd of two is ahead of every crowd of three, and aab is ahead of abb.
    (("abcd", (("ab", "cc"), ("aa", "bb"), ("dd", "cc"), ("dd", "bb"))), (0, 0, 0, 2)),
    (("abcd", (("ab", "cc"), ("aa", "cd"), ("bb", "cd"))), (2, 1, 0, 0)),
    (("abcd", (("ab", "cc"), ("bb", "cd"))), (1, 2, 0, 0)),
    (("abcdef", (("ef", "dd"), ("df", "cc"))), (0, 0, 0, 1, 1, 1)),
    (("az", (("zz", "aa"), ("zz", "az"))), (0, 2)), (("abc", (("ab", "cc"), ("aa", "cc"), ("bb", "cc"))), (2, 1, 0)),
)


def resting_folk(many, seed):
    return [folk for folk in some_folk(many, seed) if always_rests(folk)]


class TestEnds(unittest.TestCase):
    def test_crowds_of_none_and_one(self):
        for folk in ONE_ENDED + (MANY,):
            for crowd in crowds(folk[0], 0) + crowds(folk[0], 1):
                self.assertEqual(ends(folk, crowd), (crowd,))

    def test_crowds_of_two_and_three(self):
        self.assertEqual(ends(ONE, (2, 0)), ((0, 2),))
        self.assertEqual(ends(ONE, (1, 1)), ((1, 1),))
        self.assertEqual(ends(ONE, (3, 0)), ((1, 2),))
        self.assertEqual(ends(MANY, (2, 1, 0)), ((1, 0, 2), (0, 2, 1)))
        self.assertEqual(ends(MANY, (3, 0, 0)), ((0, 0, 3),))
        self.assertEqual(ends(MANY, (0, 2, 1)), ((0, 2, 1),))

    def test_crowds_of_eight(self):
        self.assertEqual(ends(ONE, (7, 1)), ((1, 7),))
        self.assertEqual(ends(ONE, (8, 0)), ((0, 8),))
        self.assertEqual(ends(MANY, (0, 4, 4)), ((0, 4, 4),))
        self.assertEqual(ends(MANY, (4, 4, 0)), ((0, 6, 2), (0, 3, 5), (0, 0, 8)))

    def test_the_order_of_crowds(self):
        folk = ("abc", (("aa", "bb"), ("aa", "bc"), ("aa", "cc")))
        self.assertEqual(ends(folk, (2, 0, 0)), ((0, 2, 0), (0, 1, 1), (0, 0, 2)))
        self.assertEqual(ends(folk, (3, 0, 0)), ((1, 2, 0), (1, 1, 1), (1, 0, 2)))
        folk = ("abcd", (("dd", "aa"), ("dd", "bc"), ("dd", "ab"), ("dd", "bb"), ("dd", "ac")))
        texts = ["aad", "abd", "acd", "bbd", "bcd"]
        self.assertEqual(["".join(letters("abcd", last)) for last in ends(folk, (0, 0, 0, 3))], texts)

    def test_more_than_eight_folk(self):
        for folk, crowd in (
            (ONE, (9, 0)), (ONE, (0, 9)), (ONE, (8, 1)), (MANY, (3, 3, 3)), (("a", ()), (9,)), (ONE, (TOP, TOP)), (ONE, (TOP, 0)),
        ):
            with self.subTest(folk=folk, crowd=crowd):
                with self.assertRaises(TooMany) as raised:
                    ends(folk, crowd)
                self.assertEqual(raised.exception.most, 8)

    def test_the_order_of_the_errors(self):
        for crowd in ((9, 9, 9), (1, 1), (-1, 1, 1), (TOP + 1, 1, 1), None, (True, 1, 1), [1, 1, 1], (1, 1, 1)):
            with self.assertRaises(NeverRests):
                ends(RING, crowd)
            with self.assertRaises(BadFolk):
                ends((RING[0], list(RING[1])), crowd)
        for crowd in ((9, 9), (9, 9, -1), (9, 9, True), (TOP + 1, 9, 9), [9, 9, 9], (9, 9, 9, 9)):
            with self.assertRaises(BadCrowd):
                ends(MANY, crowd)

    def test_against_a_search_of_all_that_the_crowd_can_come_to(self):
        for folk in resting_folk(150, 51):
            for many in range(5):
                for crowd in crowds(folk[0], many)[::3]:
                    self.assertEqual(ends(folk, crowd), tuple(in_order(folk[0], plain_ends(folk, crowd))))

    def test_against_a_search_with_eight_folk(self):
        for folk in resting_folk(60, 52):
            for crowd in crowds(folk[0], 8)[::199]:
                self.assertEqual(ends(folk, crowd), tuple(in_order(folk[0], plain_ends(folk, crowd))))

    def test_a_long_course(self):
        folk = ("abcdef", (
            ("ac", "dd"), ("ef", "bb"), ("be", "ef"), ("cd", "ef"), ("cf", "cc"), ("be", "df"), ("ad", "ae"), ("ff", "cf"),
            ("bd", "be"), ("bf", "ff"), ("bb", "ce"), ("df", "ef"),
        ))
        crowd = (5, 0, 1, 1, 0, 1)
        self.assertEqual(len(all_behind(folk, crowd)), 1234)
        self.assertEqual(ends(folk, crowd), tuple(in_order(folk[0], plain_ends(folk, crowd))))


class TestOneEnded(unittest.TestCase):
    def check(self, folk):
        """is_one_ended and parting are as the ends of all crowds of two and three are; returns the first."""
        small = crowds(folk[0], 2) + crowds(folk[0], 3)
        parted = [crowd for crowd in small if len(plain_ends(folk, crowd)) > 1]
        self.assertIs(is_one_ended(folk), parted == [])
        self.assertEqual(parting(folk), parted[0] if parted else None)
        return parted == []

    def test_folk_with_one_end(self):
        for folk in ONE_ENDED:
            with self.subTest(folk):
                self.assertTrue(self.check(folk))
                self.assertIsNone(parting(folk))

    def test_folk_with_more(self):
        for folk, crowd in PARTED:
            with self.subTest(folk):
                self.check(folk)
                self.assertEqual(parting(folk), crowd)
                self.assertIs(type(parting(folk)), type(crowd))

    def test_all_folk_of_two_moods(self):
        rules = all_rules("ab")
        told = []
        for many in range(len(rules) + 1):
            for chosen in itertools.permutations(rules, many):
                if always_rests(("ab", chosen)):
                    told.append(self.check(("ab", chosen)))
        self.assertGreater(len(told), 20)

    def test_folk_of_three_moods_with_two_rules(self):
        told = []
        for chosen in itertools.combinations(all_rules("abc"), 2):
            if always_rests(("abc", chosen)):
                told.append(self.check(("abc", chosen)))
        self.assertGreater(min(told.count(True), told.count(False)), 30)

    def test_many_folk(self):
        told = [self.check(folk) for folk in resting_folk(500, 53) + list(one_ended_folk(100, 54))]
        self.assertGreater(min(told.count(True), told.count(False)), 100)

    def test_one_end_for_larger_crowds_too(self):
        for folk in ONE_ENDED + tuple(one_ended_folk(60, 55)):
            self.assertIs(is_one_ended(folk), True)
            for crowd in crowds(folk[0], 4) + crowds(folk[0], 5)[::5] + crowds(folk[0], 8)[::400]:
                self.assertEqual(ends(folk, crowd), tuple(plain_ends(folk, crowd)))
                self.assertEqual(len(ends(folk, crowd)), 1)

    def test_errors(self):
        for function in (is_one_ended, parting, ends_paper):
            with self.assertRaises(NeverRests):
                function(RING)
            for value in odd_values() + [("ba", RING[1]), (RING[0], list(RING[1]))]:
                with self.assertRaises(BadFolk):
                    function(value)


def right_table(folk):
    """The dict of a right paper for folk with one end, by the plain search."""
    small = crowds(folk[0], 2) + crowds(folk[0], 3)
    return {crowd: list(plain_ends(folk, crowd))[0] for crowd in small}


def changed(table, key, value):
    made = dict(table)
    made[key] = value
    return made


def without(table, key):
    made = dict(table)
    del made[key]
    return made


class TestPapers(unittest.TestCase):
    def assert_judged(self, folk, told, papers):
        for paper in papers:
            with self.subTest(folk=folk, paper=shown(paper)):
                self.assertIs(judged_ends(folk, paper), told)

    def test_the_papers_that_are_made(self):
        told = []
        for folk in ONE_ENDED + tuple(folk for folk, _ in PARTED) + tuple(resting_folk(300, 56) + one_ended_folk(80, 57)):
            paper = ends_paper(folk)
            self.assertIs(type(paper), tuple)
            told.append(paper[0])
            if is_one_ended(folk):
                self.assertEqual(paper, ("one", right_table(folk)))
            else:
                self.assertEqual((paper[0], len(paper), paper[1]), ("two", 4, parting(folk)))
                self.check_rows(folk, *paper[1:])
            self.assertIs(judged_ends(folk, paper), True)
        self.assertGreater(min(told.count("one"), told.count("two")), 80)

    def check_rows(self, folk, crowd, row, other):
        self.assertEqual((type(row), type(other)), (tuple, tuple))
        found = []
        for rules in (row, other):
            here = crowd
            for rule in rules:
                here = dict(outs(folk, here))[rule]
            self.assertEqual(outs(folk, here), ())
            found.append(here)
        self.assertNotEqual(*found)

    def test_any_value(self):
        values = odd_values() + ["one", "two", ("one",), ("two",), ("one", {}), ("one", {}, {}), ("two", (2, 1, 0), ()), {"one": {}}]
        for folk in ONE_ENDED[:4] + (MANY,):
            self.assert_judged(folk, False, values)
            self.assert_judged(folk, False, [("one", value) for value in values])
        table, paper = right_table(ONE), ends_paper(MANY)
        self.assert_judged(ONE, False, [(value, table) for value in values if value != "one"])
        for at in range(4):
            right = ("two",) if at == 0 else ()
            self.assert_judged(MANY, False, [
                paper[:at] + (value,) + paper[at + 1:] for value in values if value not in right
            ])

    def test_one_with_wrong_words_and_lengths(self):
        for folk in ONE_ENDED:
            table = right_table(folk)
            self.assert_judged(folk, True, [("one", table), ("one", dict(reversed(list(table.items()))))])
            self.assert_judged(folk, False, [
                ("two", table), ("One", table), ("one ", table), (1, table), ("one", table, ()), ("one",), (table,),
                ["one", table], {"one": table}, ("one", tuple(table.items())), ("one", list(table.items())), (table, "one"),
                ("one", (table,)), ("one", table, table), ("one", tuple(table)), ("one", None), "one",
            ])

    def test_one_with_wrong_keys(self):
        for folk in ONE_ENDED:
            table, width = right_table(folk), len(folk[0])
            alone, four = crowds(folk[0], 1)[0], crowds(folk[0], 4)[-1]
            papers = [("one", without(table, crowd)) for crowd in table]
            papers += [("one", {crowd: table[crowd] for crowd in table if sum(crowd) == many}) for many in (2, 3)]
            for key in (alone, four, crowds(folk[0], 0)[0], None, "ab", (2,) * (width + 1), (), 2, (0, (0, 0))):
                value = key if type(key) is tuple else table[crowds(folk[0], 2)[0]]
                papers.append(("one", changed(table, key, value)))
                papers += [("one", changed(without(table, crowd), key, table[crowd])) for crowd in table]
            self.assert_judged(folk, False, papers)

    def test_one_with_keys_that_only_seem_to_be_crowds(self):
        table = right_table(("ab", ()))
        for crowd, key in (((1, 1), (True, 1)), ((1, 1), (1, True)), ((2, 0), (2, False)), ((0, 3), (False, 3))):
            made = without(table, crowd)
            made[key] = crowd
            self.assertEqual(made, table)
            self.assert_judged(("ab", ()), False, [("one", made)])

    def test_one_with_a_wrong_end(self):
        for folk in ONE_ENDED:
            table = right_table(folk)
            for crowd in table:
                size = sum(crowd)
                wrong = [last for last in crowds(folk[0], size) if last != table[crowd]] + [(0,) * len(folk[0]), None, 7, ()]
                wrong += [list(table[crowd]), table[crowd][:-1], table[crowd] + (0,), (table[crowd],), "".join(folk[0])]
                self.assert_judged(folk, False, [("one", changed(table, crowd, last)) for last in wrong])

    def test_one_with_bools_among_the_ends(self):
        table = right_table(ONE)
        papers = []
        for crowd in table:
            for at, many in enumerate(table[crowd]):
                if many in (0, 1):
                    last = table[crowd][:at] + (bool(many),) + table[crowd][at + 1:]
                    papers.append(("one", changed(table, crowd, last)))
                    self.assertEqual(papers[-1][1], table)
        self.assertGreater(len(papers), 5)
        self.assert_judged(ONE, False, papers)

    def test_one_where_all_ends_are_moved_alike(self):
        # Every way leads to a crowd with the same end, but the crowds at rest don't have themselves.
        for folk in ONE_ENDED:
            lasts = sorted(set(right_table(folk).values()))
            other = dict(zip(lasts, lasts[1:] + lasts[:1]))
            self.assert_judged(folk, False, [("one", {crowd: other[last] for crowd, last in right_table(folk).items()})])

    def test_one_is_never_right_for_folk_with_more_ends(self):
        for folk, parted in PARTED:
            small = crowds(folk[0], 2) + crowds(folk[0], 3)
            self.assertGreater(len(plain_ends(folk, parted)), 1)
            for pick in (min, max):
                self.assert_judged(folk, False, [("one", {crowd: pick(plain_ends(folk, crowd)) for crowd in small})])

    def test_two_with_all_rows(self):
        for folk in (MANY, PARTED[3][0], PARTED[4][0], ONE):
            for crowd in crowds(folk[0], 2) + crowds(folk[0], 3):
                last = {}
                for row in all_rows(folk, crowd):
                    last[row] = crowd
                    for rule in row:
                        last[row] = dict(outs(folk, last[row]))[rule]
                for row, other in itertools.product(last, repeat=2):
                    told = last[row] != last[other]
                    self.assertIs(judged_ends(folk, ("two", crowd, row, other)), told)

    def test_two_with_wrong_crowds(self):
        folk = ("abc", (("aa", "bb"), ("aa", "cc"), ("ab", "cc")))
        first, second = (("aa", "bb"),), (("aa", "cc"),)
        self.assert_judged(folk, True, [("two", (2, 0, 0), first, second), ("two", (2, 0, 1), first, second)])
        self.assert_judged(folk, False, [
            ("two", (2, 0, 2), first, second), ("two", (2, 0, 3), first, second), ("two", (1, 0, 0), (), ()),
            ("two", (1, 0, 1), first, second), ("two", (0, 0, 0), first, second), ("two", (2, 0), first, second),
            ("two", (2, 0, 0, 0), first, second), ("two", [2, 0, 0], first, second), ("two", (2, 0, False), first, second),
            ("two", (2, 0, True), first, second), ("two", (2, False, 0), first, second), ("two", "aa", first, second),
            ("two", (2, -1, 1), first, second), ("two", (2, 0, -1), first, second), ("two", (TOP, 0, 0), first, second),
            ("two", (2, 0, TOP + 1), first, second), ("two", None, first, second),
        ])

    def test_two_with_wrong_rows(self):
        crowd, first, second = (2, 1, 0), (("ab", "cc"),), (("aa", "bc"),)
        self.assert_judged(MANY, True, [("two", crowd, first, second), ("two", crowd, second, first)])
        self.assert_judged(MANY, False, [
            ("two", crowd, first, first), ("two", crowd, second, second), ("two", crowd, first, ()), ("two", crowd, (), second),
            ("two", crowd, (), ()), ("two", crowd, first + first, second), ("two", crowd, first, second + first + first),
            ("two", crowd, list(first), second), ("two", crowd, first, list(second)), ("two", crowd, first[0], second),
            ("two", crowd, (list(first[0]),), second), ("two", crowd, first, (("bb", "cc"),)), ("two", crowd, first, (None,)),
            ("two", crowd, first, (("cc", "ab"),)), ("two", crowd, None, second), ("two", crowd, first, second, ()),
            ("two", crowd, first), ("one", crowd, first, second), ["two", crowd, first, second], ("two", (crowd, first, second)),
            ("Two", crowd, first, second), ("two", first, crowd, second), ("two", crowd, first, "aabc"),
        ])

    def test_two_with_a_row_that_does_not_come_to_rest(self):
        folk = ("abcd", (("ab", "cc"), ("ab", "dd"), ("cc", "dd")))
        short, long, other = (("ab", "cc"),), (("ab", "cc"), ("cc", "dd")), (("ab", "dd"),)
        self.assert_judged(folk, False, [
            ("two", (1, 1, 0, 0), short, other), ("two", (1, 1, 0, 0), other, short), ("two", (1, 1, 0, 0), long, other),
            ("two", (1, 1, 0, 0), short, long), ("two", (1, 1, 0, 0), (), other),
        ])

    def test_papers_of_other_folk(self):
        self.assertIs(judged_ends(ONE, ends_paper(("ab", ()))), False)
        self.assertIs(judged_ends(("ab", ()), ends_paper(ONE)), False)
        self.assertIs(judged_ends(ONE, ends_paper(MANY)), False)
        self.assertIs(judged_ends(MANY, ends_paper(ONE)), False)

    def test_errors_ahead_of_any_paper(self):
        for paper in odd_values() + [("one", {}), ends_paper(ONE), ends_paper(MANY)]:
            with self.assertRaises(NeverRests):
                judged_ends(RING, paper)
            with self.assertRaises(BadFolk):
                judged_ends((RING[0], list(RING[1])), paper)


if __name__ == "__main__":
    unittest.main()
