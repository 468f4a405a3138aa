"""The examples of the interface, as they stand in the document."""

import doctest
import unittest

CROWDS = """
>>> from meetfolk.crowds import is_at_rest, meetings, met, met_all
>>> folk = ("abc", (("ab", "cc"), ("aa", "bc")))
>>> [meetings(folk, (2, 1, 0)), met(folk, (2, 1, 0), ("ab", "cc")), met_all(folk, (3, 0, 0), (("aa", "bc"), ("ab", "cc")))]
[(('ab', 'cc'), ('aa', 'bc')), (1, 0, 2), (0, 0, 3)]
>>> [is_at_rest(folk, (1, 0, 9)), is_at_rest(folk, (1, 1, 0))]
[True, False]
"""

RESTING = """
>>> from meetfolk.resting import always_rests, judged_rest, rest_paper, round_of, weights
>>> folk, ring = ("abc", (("ab", "cc"), ("aa", "bc"))), ("abc", (("ab", "cc"), ("cc", "ab")))
>>> [always_rests(folk), always_rests(ring), judged_rest(folk, ("weights", (3, 1, 0))), judged_rest(folk, ("weights", (1, 1, 1)))]
[True, False, True, False]
>>> [judged_rest(ring, ("round", (1, 1, 0), (("ab", "cc"), ("cc", "ab")))), judged_rest(ring, rest_paper(ring)), rest_paper(folk)[0]]
[True, True, 'weights']
"""


class TestExamples(unittest.TestCase):
    def run_examples(self, name, text):
        examples = doctest.DocTestParser().get_doctest(text, {}, name, name, 0)
        printed = []
        result = doctest.DocTestRunner(verbose=False).run(examples, out=printed.append)
        self.assertGreater(result.attempted, 0)
        self.assertEqual(result.failed, 0, "".join(printed))

    def test_crowds(self):
        self.run_examples("crowds", CROWDS)

    def test_resting(self):
        self.run_examples("resting", RESTING)


if __name__ == "__main__":
    unittest.main()
