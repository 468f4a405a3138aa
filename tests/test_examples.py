"""The examples of the interface, as they stand in the document."""

import doctest
import unittest

CROWDS = """
>>> from meetfolk.crowds import is_at_rest, meetings, met, met_all
>>> folk = ("abc", (("ab", "cc"), ("aa", "bc")))
>>> [meetings(folk, (2, 1, 0)), met(folk, (2, 1, 0), ("ab", "cc")), met_all(folk, (3, 0, 0), (("aa", "bc"), ("ab", "cc")))]
[(('ab', 'cc'), ('aa', 'bc')), (1, 0, 2), (0, 0, 3)]
>>> [is_at_rest(folk, (1, 0, 9)), is_at_rest(folk, (1, 1, 0))]
[True, False]
"""

RESTING = """
>>> from meetfolk.resting import always_rests, judged_rest, rest_paper, round_of, weights
>>> folk, ring = ("abc", (("ab", "cc"), ("aa", "bc"))), ("abc", (("ab", "cc"), ("cc", "ab")))
>>> [always_rests(folk), always_rests(ring), judged_rest(folk, ("weights", (3, 1, 0))), judged_rest(folk, ("weights", (1, 1, 1)))]
[True, False, True, False]
>>> [judged_rest(ring, ("round", (1, 1, 0), (("ab", "cc"), ("cc", "ab")))), judged_rest(ring, rest_paper(ring)), rest_paper(folk)[0]]
[True, True, 'weights']
"""

ENDING = """
>>> from meetfolk.ending import end, ends, ends_paper, is_one_ended, judged_ends, leaps, parting
>>> folk, many = ("ab", (("aa", "bb"),)), ("abc", (("ab", "cc"), ("aa", "bc")))
>>> [ends(many, (2, 1, 0)), is_one_ended(many), parting(many), is_one_ended(folk), parting(folk)]
[((1, 0, 2), (0, 2, 1)), False, (2, 1, 0), True, None]
>>> [end(folk, (7, 1)), leaps(folk, (10 ** 30, 0)) == ((("aa", "bb"), 5 * 10 ** 29),), judged_ends(folk, ends_paper(folk))]
[(1, 7), True, True]
"""

RAYS = """
>>> from meetfolk.rays import on_ray, ray
>>> folk = ("ab", (("aa", "bb"),))
>>> [ray(folk, (0, 0), (1, 0)), on_ray(folk, (0, 0), (1, 0), 10 ** 20 + 1) == (1, 10 ** 20), ray(folk, (1, 0), (0, 3))]
[(0, 2, (0, 2)), True, (0, 1, (0, 3))]
"""

ALIKE = """
>>> from meetfolk.alike import are_parted, ends_alike, kept, keeps, unlike_crowd
>>> folk, other = ("abc", (("aa", "bc"),)), ("abc", (("aa", "bb"),))
>>> [ends_alike(folk, folk), ends_alike(folk, other), unlike_crowd(folk, other), kept(folk), kept(other)]
[True, False, (2, 0, 0), ((1, 0, 2), (0, 1, -1)), ((1, 1, 0), (0, 0, 1))]
>>> [keeps(folk, (1, 1, 1)), keeps(folk, (1, 0, 0)), are_parted(folk, (2, 0, 0), (0, 1, 1)), are_parted(folk, (2, 0, 0), (0, 2, 0))]
[True, False, False, True]
"""

CHOOSING = """
>>> from meetfolk.choosing import chances, count_rows, expected, least_crowd, least_other, longest, longest_row, shortest
>>> folk, one = ("abc", (("ab", "cc"), ("aa", "bc"))), ("ab", (("aa", "bb"),))
>>> [longest(folk, (3, 0, 0)), shortest(folk, (2, 1, 0)), longest_row(folk, (3, 0, 0)), count_rows(folk, (2, 1, 0))]
[2, 1, (('aa', 'bc'), ('ab', 'cc')), 2]
>>> [chances(folk, (2, 1, 0)), expected(folk, (3, 0, 0)), least_crowd(one, "b", 3), least_other(one, "b", 3)]
[{(1, 0, 2): (2, 3), (0, 2, 1): (1, 3)}, (2, 1), (2, 1), (2, 1)]
"""

READING = """
>>> from meetfolk.reading import printed
>>> printed("moods ab;rule aa>bb;crowd X=1 b,7 a;join Y=X+X;ask end Y;ask rests;")
'moods ab;\\nrule aa > bb;\\ncrowd X = 7 a, 1 b;\\njoin Y = X + X;\\nask end Y;\\nask rests;'
"""

RUNNING = """
>>> from meetfolk.running import run
>>> run("moods ab; ask rests; rule aa > bb; crowd X = 7 a, 1 b; join Y = X + X; ask end Y; ask one; ask ends X; ask longest X; ask rest X;")
(True, (0, 16), True, ((1, 7),), 3, False)
"""

DESKS = """
>>> from meetfolk.desks import Desk, desk_of
>>> desk = Desk(("ab", (("aa", "bb"),)), (2, 0))
>>> done = [desk.meet(("aa", "bb")), desk.join((1, 1)), desk.leave("b")]
>>> [desk.crowd(), desk.row(), desk.is_at_rest(), desk.text(), desk_of(desk.text()).crowd()]
[(1, 2), (('meet', ('aa', 'bb')), ('join', (1, 1)), ('leave', 'b')), True, 'moods ab\\nrules aa>bb\\ncrowd 1 2\\n', (1, 2)]
"""

SHAPES = """
>>> from meetfolk.shapes import is_of_shape, likenesses, lumped, lumped_crowd, lumps, rest_shapes
>>> folk = ("abc", (("ab", "cc"), ("aa", "cc"), ("bb", "cc")))
>>> [rest_shapes(folk), is_of_shape(folk, (1, 0, 9), "1.*"), likenesses(folk), lumps(folk)]
[('.1*', '1.*'), True, ('abc', 'bac'), ('aaa', 'aac', 'abc')]
>>> [lumped(folk, "aac"), lumped_crowd(folk, "aac", (2, 3, 4))]
[('ac', (('aa', 'cc'),)), (5, 4)]
"""


class TestExamples(unittest.TestCase):
    def run_examples(self, name, text):
        examples = doctest.DocTestParser().get_doctest(text, {}, name, name, 0)
        printed = []
        result = doctest.DocTestRunner(verbose=False).run(examples, out=printed.append)
        self.assertGreater(result.attempted, 0)
        self.assertEqual(result.failed, 0, "".join(printed))

    def test_crowds(self):
        self.run_examples("crowds", CROWDS)

    def test_resting(self):
        self.run_examples("resting", RESTING)

    def test_ending(self):
        self.run_examples("ending", ENDING)

    def test_rays(self):
        self.run_examples("rays", RAYS)

    def test_alike(self):
        self.run_examples("alike", ALIKE)

    def test_choosing(self):
        self.run_examples("choosing", CHOOSING)

    def test_reading(self):
        self.run_examples("reading", READING)

    def test_running(self):
        self.run_examples("running", RUNNING)

    def test_desks(self):
        self.run_examples("desks", DESKS)

    def test_shapes(self):
        self.run_examples("shapes", SHAPES)


if __name__ == "__main__":
    unittest.main()
