"""[4] and [5]: rest, and papers on it."""

import itertools
import unittest

from meetfolk.errors import AlwaysRests, BadFolk, NeverRests
from meetfolk.resting import always_rests, judged_rest, rest_paper, round_of, weights
from tests.values import all_rules, odd_values, shown, some_folk

FOLK = ("abc", (("ab", "cc"), ("aa", "bc")))
RING = ("abc", (("ab", "cc"), ("cc", "ab")))
TOP = 10 ** 40

RESTING = (
    ("a", ()), ("abcdef", ()), ("ab", (("aa", "bb"),)), ("ab", (("aa", "ab"), ("ab", "bb"), ("aa", "bb"))), FOLK,
    ("abc", (("ab", "cc"), ("aa", "cc"), ("bb", "cc"))), ("abc", (("aa", "bc"),)),
    # Each weight must be more than twice the next one, so none of them can be small.
    ("abcdef", (("af", "bb"), ("bf", "cc"), ("cf", "dd"), ("df", "ee"), ("ef", "ff"))),
    ("abcdef", (("cc", "ee"), ("ad", "ef"), ("ee", "ff"), ("bb", "aa"), ("ff", "bb"), ("ad", "cc"))),
    ("abcdef", (
        ("bb", "ad"), ("bb", "ff"), ("bc", "ef"), ("ee", "dd"), ("bb", "cf"), ("bf", "aa"), ("aa", "cc"), ("cc", "ee"),
        ("dd", "ff"), ("bc", "dd"), ("aa", "ee"), ("ab", "ff"),
    )),
    # The search for these weights is among the longest ones.
    ("abcdef", (
        ("ee", "bd"), ("ee", "ad"), ("ce", "bc"), ("ac", "dd"), ("ac", "ce"), ("ab", "cc"), ("ac", "bf"), ("af", "de"),
        ("bf", "cc"), ("bb", "cd"), ("df", "cc"), ("cf", "ee"),
    )),
)

ROUNDS = (
    RING, ("ab", (("aa", "bb"), ("bb", "aa"))), ("ab", (("aa", "ab"), ("ab", "aa"))),
    ("abc", (("aa", "bc"), ("bb", "ac"), ("cc", "ab"))), ("abc", (("ab", "ac"), ("ab", "cc"), ("ac", "ab"))),
    ("abc", (("aa", "ab"), ("bb", "bc"), ("cc", "ac"))), ("abcd", (("ab", "ac"), ("cd", "bd"))),
    # The first rule must be used twice for one use of the second.
    ("ab", (("aa", "ab"), ("bb", "aa"))),
    ("abc", (("aa", "bc"), ("bb", "cc"), ("cc", "aa"))),
    # The ring of the doubled weights turned about, closed by its last rule: it needs many uses.
    ("abcdef", (("bb", "af"), ("cc", "bf"), ("dd", "cf"), ("ee", "df"), ("ff", "ef"), ("af", "ff"))),
    ("abcdef", (("ff", "ac"), ("ee", "ff"), ("dd", "ef"), ("aa", "bd"), ("bb", "de"), ("cc", "ab"))),
    ("abcdef", (
        ("be", "aa"), ("df", "cc"), ("de", "bb"), ("cd", "ee"), ("aa", "ff"), ("af", "dd"), ("df", "aa"), ("bb", "ef"),
        ("ab", "cd"), ("cc", "cd"), ("bf", "ce"), ("ac", "ad"),
    )),
)


def is_whole(value, most=None):
    return type(value) is int and value >= 0 and (most is None or value <= most)


def show_rest(folk, found):
    """Whether these are weights as [4] says, reckoned here anew."""
    moods, rules = folk
    if type(found) is not tuple or len(found) != len(moods) or not all(is_whole(weight) for weight in found):
        return False
    told = dict(zip(moods, found))
    return all(told[f[0]] + told[f[1]] > told[t[0]] + told[t[1]] for f, t in rules)


def show_round(folk, crowd, row):
    """Whether these are a crowd and a row as [4] says, reckoned here anew."""
    moods, rules = folk
    if type(crowd) is not tuple or len(crowd) != len(moods) or not all(is_whole(many, TOP) for many in crowd):
        return False
    if type(row) is not tuple or len(row) == 0:
        return False
    there = dict(zip(moods, crowd))
    for rule in row:
        if rule not in rules:
            return False
        for mood in rule[0]:
            there[mood] -= 1
        if min(there.values()) < 0:
            return False
        for mood in rule[1]:
            there[mood] += 1
    return tuple(there[mood] for mood in moods) == crowd


class TestRest(unittest.TestCase):
    def check_rests(self, folk):
        self.assertIs(always_rests(folk), True)
        self.assertTrue(show_rest(folk, weights(folk)), folk)
        with self.assertRaises(AlwaysRests):
            round_of(folk)
        paper = rest_paper(folk)
        self.assertEqual((type(paper), len(paper), paper[0]), (tuple, 2, "weights"))
        self.assertTrue(show_rest(folk, paper[1]), folk)
        self.assertIs(judged_rest(folk, paper), True)

    def check_never_rests(self, folk):
        self.assertIs(always_rests(folk), False)
        with self.assertRaises(NeverRests):
            weights(folk)
        found = round_of(folk)
        self.assertEqual((type(found), len(found)), (tuple, 2))
        self.assertTrue(show_round(folk, *found), folk)
        paper = rest_paper(folk)
        self.assertEqual((type(paper), len(paper), paper[0]), (tuple, 3, "round"))
        self.assertTrue(show_round(folk, *paper[1:]), folk)
        self.assertIs(judged_rest(folk, paper), True)

    def check(self, folk):
        """Exactly one of weights and rounds is there, and what is there is shown right."""
        if always_rests(folk):
            self.check_rests(folk)
        else:
            self.check_never_rests(folk)

    def test_folk_that_always_rest(self):
        for folk in RESTING:
            with self.subTest(folk):
                self.check_rests(folk)

    def test_folk_that_do_not(self):
        for folk in ROUNDS:
            with self.subTest(folk):
                self.check_never_rests(folk)

    def test_a_rule_ahead_of_a_round_changes_nothing_of_it(self):
        self.check_never_rests(("abcd", (("aa", "bd"), ("ab", "cc"), ("dd", "bd"), ("cc", "ab"))))
        self.check_never_rests(("abcd", (("cd", "bd"), ("aa", "dd"), ("ab", "ac"))))

    def test_all_folk_of_one_and_two_moods(self):
        rules = all_rules("ab")
        self.check(("a", ()))
        for many in range(len(rules) + 1):
            for chosen in itertools.combinations(rules, many):
                self.check(("ab", chosen))

    def test_all_folk_of_three_moods_with_up_to_two_rules(self):
        for chosen in itertools.permutations(all_rules("abc"), 2):
            self.check(("abc", chosen))
        for rule in all_rules("abc"):
            self.check(("abc", (rule,)))

    def test_many_folk(self):
        told = [always_rests(folk) for folk in some_folk(1500, 41)]
        self.assertGreater(min(told.count(True), told.count(False)), 300)
        for folk in some_folk(1500, 41):
            self.check(folk)

    def test_a_round_and_its_rules_in_any_order(self):
        for order in itertools.permutations((("aa", "bc"), ("bb", "cc"), ("cc", "aa"), ("ab", "cc"))):
            self.check_never_rests(("abc", order))

    def test_a_search_that_could_go_in_a_circle(self):
        rules = (
            ("cd", "be"), ("bf", "ce"), ("ab", "ff"), ("af", "df"), ("ff", "cf"), ("dd", "bc"), ("cc", "be"), ("bf", "ef"),
        )
        self.check(("abcdef", rules))
        self.check(("abcdef", rules[::-1]))

    def test_bad_folk(self):
        for function in (always_rests, weights, round_of, rest_paper):
            for value in odd_values() + [list(RING), ("ba", ()), ("ab", [("aa", "bb")]), ("ab", (("aa", "aa"),))]:
                with self.assertRaises(BadFolk):
                    function(value)


class TestJudgedRest(unittest.TestCase):
    def assert_judged(self, folk, told, papers):
        for paper in papers:
            with self.subTest(shown(paper)):
                self.assertIs(judged_rest(folk, paper), told)

    def test_any_value(self):
        values = odd_values()
        for folk in (FOLK, RING, ("a", ()), ("abc", ())):
            self.assert_judged(folk, False, values)
            self.assert_judged(folk, False, [("weights",), ("round",), ("weights", (0,), ()), ("round", (0,), (), ())])
        self.assert_judged(FOLK, False, [("weights", value) for value in values])
        self.assert_judged(FOLK, False, [(value, (3, 1, 0)) for value in values if value != "weights"])
        self.assert_judged(RING, False, [("round", value, RING[1]) for value in values])
        self.assert_judged(RING, False, [("round", (1, 1, 0), value) for value in values])
        self.assert_judged(RING, False, [("round", (1, 1, 0), (value,)) for value in values])
        self.assert_judged(RING, False, [(value, (1, 1, 0), RING[1]) for value in values if value != "round"])

    def test_weights_by_which_each_rule_loses(self):
        self.assert_judged(FOLK, True, [
            ("weights", (3, 1, 0)), ("weights", (2, 1, 1)), ("weights", (1, 0, 0)), ("weights", (10 ** 60, 10 ** 50, 0)),
            ("weights", (TOP + 2, TOP, TOP)), ("weights", (10 ** 5000, 10 ** 4000, 0)),
        ])
        self.assert_judged(("ab", ()), True, [("weights", (0, 0)), ("weights", (0, 5)), ("weights", (9, 9))])

    def test_weights_by_which_some_rule_does_not_lose(self):
        self.assert_judged(FOLK, False, [
            ("weights", (1, 1, 1)), ("weights", (1, 1, 2)), ("weights", (0, 3, 1)), ("weights", (1, 3, 0)),
            ("weights", (1, 1, 1 + 10 ** 60)), ("weights", (0, 0, 0)), ("weights", (0, 1, 3)), ("weights", (2, 1, 3)),
        ])
        self.assert_judged(RING, False, [("weights", found) for found in itertools.product(range(4), repeat=3)])

    def test_weights_that_are_none(self):
        self.assert_judged(FOLK, False, [
            ("weights", (3, 1)), ("weights", (3, 1, 0, 0)), ("weights", ()), ("weights", [3, 1, 0]),
            ("weights", (3, 1, -1)), ("weights", (3, True, 0)), ("weights", (3, 1, False)), ("weights", (True, 0, 0)),
            ("weights", (3, 1, None)), ("weights", ("3", "1", "0")), ("weights", {0: 3, 1: 1, 2: 0}), ("weights", 3, 1, 0),
            ["weights", (3, 1, 0)], ("weights", (3, 1, 0), ()), ("weight", (3, 1, 0)), ("round", (3, 1, 0)),
            ("weights", ((3, 1, 0),)), (("weights", (3, 1, 0)),), ("Weights", (3, 1, 0)), ((3, 1, 0), "weights"),
        ])
        self.assert_judged(("ab", ()), False, [("weights", (0, -1)), ("weights", (0, False)), ("weights", (0,))])

    def test_a_row_that_leads_back(self):
        there, back = RING[1]
        self.assert_judged(RING, True, [
            ("round", (1, 1, 0), (there, back)), ("round", (0, 0, 2), (back, there)), ("round", (7, 1, 9), (there, back)),
            ("round", (2, 2, 0), (there, there, back, back)), ("round", (TOP, TOP, TOP - 2), (there, back)),
            ("round", (1, 1, 0), (there, back) * 50),
        ])

    def test_a_mood_may_have_too_many_on_the_way(self):
        there, back = RING[1]
        self.assert_judged(RING, True, [("round", (TOP, TOP, TOP), (there, back)), ("round", (0, 0, TOP), (back, there))])

    def test_a_row_that_does_not_lead_back(self):
        there, back = RING[1]
        self.assert_judged(RING, False, [
            ("round", (1, 1, 0), ()), ("round", (1, 1, 0), (there,)), ("round", (1, 1, 0), (back, there)),
            ("round", (1, 1, 0), (there, there, back, back)), ("round", (1, 1, 2), (there, back, back)),
            ("round", (0, 0, 0), (there, back)), ("round", (1, 1, 0), (there, back, there)), ("round", (5, 5, 5), (there,)),
        ])
        self.assert_judged(FOLK, False, [("round", (3, 3, 3), FOLK[1]), ("round", (3, 3, 3), ())])

    def test_a_round_that_is_none(self):
        there, back = RING[1]
        self.assert_judged(RING, False, [
            ("round", (1, 1), (there, back)), ("round", (1, 1, 0, 0), (there, back)), ("round", [1, 1, 0], (there, back)),
            ("round", (1, 1, False), (there, back)), ("round", (True, True, 0), (there, back)),
            ("round", (1, 1, -1), (there, back)), ("round", (1, 1, TOP + 1), (there, back)),
            ("round", (TOP + 1, 1, 0), (there, back)), ("round", (1, 1, 0), [there, back]),
            ("round", (1, 1, 0), (there, list(back))), ("round", (1, 1, 0), (there, ("cc", "ba"))),
            ("round", (1, 1, 0), (("ab", "bb"), ("bb", "ab"))), ("round", (1, 1, 0), "ab"), ["round", (1, 1, 0), (there, back)],
            ("round", ((1, 1, 0), (there, back))), ("weights", (1, 1, 0), (there, back)), ("round", (1, 1, 0)),
            ("round", (1, 1, 0), (there, back), ()), ("round", (1, 1, 0), there, back), ((1, 1, 0), (there, back)),
        ])

    def test_papers_of_other_folk(self):
        self.assertIs(judged_rest(FOLK, rest_paper(RING)), False)
        self.assertIs(judged_rest(RING, rest_paper(FOLK)), False)
        self.assertIs(judged_rest(("abcd", FOLK[1]), rest_paper(FOLK)), False)

    def test_only_the_paper_that_shows_what_is_so_can_be_right(self):
        for folk in RESTING:
            for row in itertools.product(folk[1], repeat=2):
                self.assertIs(judged_rest(folk, ("round", (9,) * len(folk[0]), row)), False)
        for folk in ROUNDS:
            if len(folk[0]) < 4:
                for found in itertools.product(range(7), repeat=len(folk[0])):
                    self.assertIs(judged_rest(folk, ("weights", found)), False)

    def test_bad_folk(self):
        for value in odd_values():
            for paper in (("weights", (3, 1, 0)), None):
                with self.assertRaises(BadFolk):
                    judged_rest(value, paper)


if __name__ == "__main__":
    unittest.main()
