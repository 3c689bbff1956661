"""Promises 3, 12 and 13: FLOWS and their LOTS."""

import itertools
import unittest
from fractions import Fraction

from hatchwaits.lots import folded, is_flow, mean, second, share_of, times_over, total
from tests.helpers import LONG, PlainCase, chance, plain, right_flow


def some_flows():
    draw = chance(12)
    told = [(1,), (7,), (0, 1), (0, 0, 3), (1, 0, 1), (2, 2), (6, 3, 1), (0, 0, 0, 0, 12), (12,) * 9, (0, 5, 0, 0, 10)]
    for turn in range(40):
        told.append(tuple(draw.choice([0, draw.randint(0, 12)]) for k in range(draw.randint(0, 8))) + (draw.randint(1, 12),))
    return told


class Looks(PlainCase):

    def test_right_and_wrong(self):
        self.looks(is_flow, right_flow, [(1,), (0, 1), (0, 0, 2), (3, 0, 2), (12,) * 9, (LONG,), (0, LONG), (1, 2, 3)])

    def test_wrong_ones(self):
        for thing in [(), (0,), (1, 0), (0, 0), (-1,), (-1, 2), (1, -1), (True,), (0, True), (False, 1), (1, True, 1),
                      [1], [0, 1], (1, None), (None, 1), ("1",), ((1,),), ([1],), (1, -LONG), (-LONG, 1), None, 1, True]:
            self.assertIs(False, is_flow(thing), thing)


class OfOneFlow(PlainCase):

    def test_plain_ones(self):
        self.tells(10, total, (6, 3, 1))
        self.tells((3, 5), share_of, (6, 3, 1), 0)
        self.tells((1, 10), share_of, (6, 3, 1), 2)
        self.tells((1, 2), mean, (6, 3, 1))
        self.tells((7, 10), second, (6, 3, 1))
        self.tells((0, 1), mean, (5,))
        self.tells((0, 1), second, (5,))
        self.tells((1, 1), share_of, (5,), 0)
        self.tells((2, 1), mean, (0, 0, 3))
        self.tells((4, 1), second, (0, 0, 3))

    def test_shares_below_0_and_beyond(self):
        for flow in some_flows():
            for k in [-1, -2, -len(flow), -len(flow) - 1, -LONG, len(flow), len(flow) + 1, LONG]:
                self.tells((0, 1), share_of, flow, k)

    def test_noughts_among_the_lots(self):
        self.tells((0, 1), share_of, (3, 0, 1), 1)
        self.tells((0, 1), share_of, (0, 0, 1), 0)
        self.tells((1, 1), share_of, (0, 0, 1), 2)

    def test_many(self):
        for flow in some_flows():
            drawn = [k for k, lot in enumerate(flow) for turn in range(lot)]
            self.tells(len(drawn), total, flow)
            self.tells(plain(Fraction(sum(drawn), len(drawn))), mean, flow)
            self.tells(plain(Fraction(sum(k * k for k in drawn), len(drawn))), second, flow)
            for k in range(len(flow)):
                self.tells(plain(Fraction(drawn.count(k), len(drawn))), share_of, flow, k)

    def test_long_lots(self):
        self.tells(2 * LONG + 1, total, (LONG, LONG + 1))
        self.tells((LONG, 2 * LONG + 1), share_of, (LONG, LONG + 1), 0)


class Folding(PlainCase):

    def test_plain_ones(self):
        self.tells((1, 2, 1), folded, (1, 1), (1, 1))
        self.tells((4, 8, 4), folded, (2, 2), (2, 2))
        self.tells((0, 0, 6), folded, (0, 2), (0, 3))
        self.tells((6, 9), folded, (3,), (2, 3))
        self.tells((6, 9), folded, (2, 3), (3,))
        self.tells((2, 1, 2, 1), folded, (2, 1), (1, 0, 1))
        self.tells((1,), folded, (1,), (1,))

    def test_many(self):
        flows = some_flows()
        for flow, other in itertools.product(flows[::3], flows[1::4]):
            wanted = [0] * (len(flow) + len(other) - 1)
            for k in range(len(wanted)):
                wanted[k] = sum(flow[i] * other[k - i] for i in range(len(flow)) if 0 <= k - i < len(other))
            self.tells(tuple(wanted), folded, flow, other)
            self.assertTrue(is_flow(folded(flow, other)))

    def test_times_over_none_and_one(self):
        for flow in some_flows():
            self.tells((1,), times_over, flow, 0)
            self.tells(flow, times_over, flow, 1)
            self.tells(folded(flow, flow), times_over, flow, 2)

    def test_times_over_few(self):
        for flow in some_flows():
            wanted = (1,)
            for n in range(5):
                self.tells(wanted, times_over, flow, n)
                wanted = folded(wanted, flow)

    def test_times_over_forty(self):
        self.tells((0,) * 40 + (1,), times_over, (0, 1), 40)
        self.tells((3 ** 40,), times_over, (3,), 40)
        wanted = [1]
        for k in range(40):
            wanted.append(wanted[-1] * (40 - k) // (k + 1))
        self.tells(tuple(wanted), times_over, (1, 1), 40)
        self.tells(tuple(2 ** (40 - k) * lot for k, lot in enumerate(wanted)), times_over, (2, 1), 40)
        for flow in some_flows()[:12]:
            told = times_over(flow, 40)
            self.assertEqual(total(flow) ** 40, total(told))
            self.assertEqual(40 * (len(flow) - 1) + 1, len(told))


if __name__ == "__main__":
    unittest.main()
