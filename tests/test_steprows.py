"""Promises 60 and 62: the STANDING SHARES of a FLOW that rests."""

import unittest
from fractions import Fraction

from hatchwaits.errors import NoRest
from hatchwaits.steprows import step_row
from tests.helpers import PlainCase, plain, right_fraction
from tests.simulation import chances_of, one_beat_of_work, sorted_flows

NOUGHT, ONE = (0, 1), (1, 1)


def walked_steps(flow, n):
    """p0 to pn by what one beat leaves as it is: of p(k + 1) alone p0 to pk are not known ahead."""
    chances = dict(chances_of(flow))
    mean = sum(x * part for x, part in chances.items())
    told = [(1 - mean) / chances[0]]
    for k in range(n):
        coming = Fraction(0)
        for j, share in enumerate(told):
            coming += sum(share * part for x, part in chances.items() if one_beat_of_work(j, x) == k)
        told.append((told[k] - coming) / chances[0])
    return tuple(map(plain, told))


class StepRows(PlainCase):

    def test_plain_ones(self):
        self.tells(((5, 6), (5, 36), (5, 216), (5, 1296)), step_row, (6, 3, 1), 3)
        self.tells((ONE, NOUGHT, NOUGHT), step_row, (4,), 2)
        self.tells((ONE, NOUGHT, NOUGHT), step_row, (4, 9), 2)
        self.tells(((1, 2), (1, 4), (1, 8), (1, 16)), step_row, (2, 0, 1), 3)
        self.tells(((1, 3), (1, 9), (4, 27)), step_row, (3, 0, 0, 1), 2)

    def test_n_0(self):
        for flow in sorted_flows(140)["rests"]:
            chances = dict(chances_of(flow))
            lack = 1 - sum(x * part for x, part in chances.items())
            self.tells((plain(lack / chances[0]),), step_row, flow, 0)

    def test_one_beat_leaves_them_as_they_are(self):
        for flow in sorted_flows(141)["rests"]:
            for n in (1, 2, 5):
                self.tells(walked_steps(flow, n), step_row, flow, n)

    def test_as_much_goes_above_as_comes_back(self):
        for flow in sorted_flows(142)["rests"]:
            told = [Fraction(*share) for share in step_row(flow, 8)]
            chances = dict(chances_of(flow))
            for k in range(8):
                above = sum(told[j] * sum(part for x, part in chances.items() if x >= k + 2 - j) for j in range(k + 1))
                self.assertEqual(above, told[k + 1] * chances[0])

    def test_sixteen(self):
        for flow in [(6, 3, 1), (12, 0, 0, 0, 0, 0, 0, 0, 1), (12, 1, 1, 1), (12, 0, 5), (9,), (7, 7), (12, 0, 0, 0, 2)]:
            self.tells(walked_steps(flow, 16), step_row, flow, 16)
            self.same(step_row(flow, 16)[:5], step_row(flow, 4))

    def test_noughts_among_the_lots(self):
        for flow in [(5, 0, 1), (7, 0, 0, 1, 1), (8, 1, 0, 0, 1), (12, 0, 0, 0, 0, 1)]:
            self.tells(walked_steps(flow, 12), step_row, flow, 12)

    def test_they_come_near_to_one(self):
        for flow in [(6, 3, 1), (5, 0, 1), (4, 1, 0, 1), (12, 0, 0, 0, 1), (3,), (1, 5)]:
            told = step_row(flow, 80)
            self.assertTrue(all(right_fraction(share) and share[0] >= 0 for share in told))
            whole = sum(Fraction(*share) for share in told)
            self.assertLessEqual(whole, 1)
            self.assertGreater(whole, Fraction(999, 1000))

    def test_refused_with_the_word(self):
        for word in ("runs", "swings", "still"):
            flows = sorted_flows(143)[word]
            self.assertGreater(len(flows), 1)
            for flow in flows:
                for n in (0, 1, 4):
                    self.refuses(NoRest, {}, step_row, flow, n)
                    with self.assertRaises(NoRest) as caught:
                        step_row(flow, n)
                    self.same(caught.exception.word, word)


if __name__ == "__main__":
    unittest.main()
