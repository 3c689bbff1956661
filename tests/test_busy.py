"""Promises 6, 56, 57 and 58: how long a house is busy."""

import itertools
import unittest
from fractions import Fraction

from hatchwaits.busy import busy_row, first_busy
from hatchwaits.comings import flow_of
from hatchwaits.errors import NoRest
from hatchwaits.lots import times_over
from hatchwaits.stays import stay_row
from tests.helpers import LONG, RULES, PlainCase, chance, plain
from tests.simulation import (
    House, chances_of, drawn_beats, drawn_flows, drawn_stand, one_beat_of_work, sorted_flows, weighed_ways)

NOUGHT, ONE = (0, 1), (1, 1)


def walked_busy(flow, works, first, n):
    """The chances to be empty, moment by moment from the first one on, by the chances of the works there."""
    row = [Fraction(0)] * (n + 1)
    for moment in range(first, n + 1):
        row[moment] = works.pop(0, Fraction(0))
        following = {}
        for work, share in works.items():
            for brought, part in chances_of(flow):
                on = one_beat_of_work(work, brought)
                following[on] = following.get(on, 0) + share * part
        works = following
    return tuple(map(plain, row)), plain(1 - sum(row))


def some_flows(seed):
    """A few FLOWS of each word."""
    return [flow for flows in sorted_flows(seed).values() for flow in flows[:8]]


class Busy(PlainCase):

    def test_plain_ones(self):
        self.tells(((NOUGHT, NOUGHT, (9, 25), (27, 125)), (53, 125)), busy_row, (6, 3, 1), 2, 3)
        self.tells(((NOUGHT, ONE, NOUGHT), NOUGHT), busy_row, (4,), 1, 2)
        self.tells(((NOUGHT,) * 5, ONE), busy_row, (0, 1), 1, 4)
        self.tells(((NOUGHT,) * 5, ONE), busy_row, (0, 0, 3), 1, 4)
        self.tells(((NOUGHT, (1, 2), NOUGHT, (1, 8), NOUGHT, (1, 16)), (5, 16)), busy_row, (1, 0, 1), 1, 5)

    def test_w_0(self):
        for flow in some_flows(120):
            for n in (0, 1, 2, 16):
                self.tells(((ONE,) + (NOUGHT,) * n, NOUGHT), busy_row, flow, 0, n)

    def test_n_0_and_w_above_n(self):
        for flow in some_flows(121):
            self.tells(((NOUGHT,), ONE), busy_row, flow, 1, 0)
            for n in range(6):
                for w in (n + 1, n + 2, 16, LONG):
                    self.tells(((NOUGHT,) * (n + 1), ONE), busy_row, flow, w, n)

    def test_moment_by_moment(self):
        for flow in some_flows(122):
            for w, n in itertools.product((0, 1, 2, 3, 5), (1, 2, 4, 7)):
                self.tells(walked_busy(flow, {w: Fraction(1)}, 0, n), busy_row, flow, w, n)

    def test_sixteen(self):
        for flow in some_flows(123)[::4]:
            for w in (1, 4, 16):
                self.tells(walked_busy(flow, {w: Fraction(1)}, 0, 16), busy_row, flow, w, 16)

    def test_all_sum_to_one(self):
        for flow in drawn_flows(124, 20):
            for w, n in itertools.product((0, 1, 3), (0, 2, 5)):
                row, missing = busy_row(flow, w, n)
                self.assertEqual(n + 1, len(row))
                self.assertEqual(1, sum(Fraction(*share) for share in row + (missing,)))

    def test_w_over_k_times_the_chance_of_k_less_w(self):
        for flow in some_flows(125):
            for w in (1, 2, 3):
                row = busy_row(flow, w, 6)[0]
                for k in range(1, 7):
                    brought = Fraction(0)
                    if len(flow) ** k < 1500:
                        for parts in itertools.product(chances_of(flow), repeat=k):
                            if sum(x for x, part in parts) == k - w:
                                whole = Fraction(1)
                                for x, part in parts:
                                    whole *= part
                                brought += whole
                        self.same(row[k], plain(Fraction(w, k) * brought))

    def test_the_one_and_behind_it_the_other(self):
        for flow in some_flows(126):
            for v, w in ((0, 3), (1, 1), (2, 1), (3, 2)):
                one, other = busy_row(flow, v, 9)[0], busy_row(flow, w, 9)[0]
                wanted = [plain(sum((Fraction(*one[i]) * Fraction(*other[k - i]) for i in range(k + 1)), Fraction(0)))
                          for k in range(10)]
                self.same(busy_row(flow, v + w, 9)[0], tuple(wanted))

    def test_under_every_rule_a_house_of_one_hand_without_bound(self):
        draw = chance(127)
        for turn in range(3):
            for rule in RULES:
                house, beats = (1, None, rule), drawn_beats(draw, 3)
                stand = drawn_stand(draw, house, 2)
                row = [Fraction(0)] * 5
                for way, chance_of in weighed_ways(beats, 4):
                    told = House(house, stand)
                    moment = 0
                    while told.line and moment < 4:
                        told.come(way[moment])
                        told.work()
                        moment += 1
                    if not told.line:
                        row[moment] += chance_of
                work = sum(person[1] for person in stand)
                self.same(busy_row(flow_of(beats), work, 4), (tuple(map(plain, row)), plain(1 - sum(row))))

    def test_who_is_last_under_lastoff_stays_as_long(self):
        draw = chance(128)
        for turn in range(20):
            house, beats = (1, None, "lastoff"), drawn_beats(draw, 3)
            stand = drawn_stand(draw, house, 2) + ((draw.randint(0, 1), draw.randint(1, 3), False),)
            row, missing = busy_row(flow_of(beats), stand[-1][1], 4)
            self.same(stay_row(house, beats, stand, len(stand) - 1, 4), (row[1:], missing))


    def test_a_long_flow(self):
        flow = times_over((3, 0, 0, 1), 40)
        for w in (0, 1, 3):
            self.tells(walked_busy(flow, {w: Fraction(1)}, 0, 3), busy_row, flow, w, 3)
        self.assertEqual(17, len(busy_row(times_over((12,) * 9, 40), 3, 16)[0]))


class FirstBusy(PlainCase):

    def test_plain_ones(self):
        self.tells(((NOUGHT, (3, 4), (3, 20), (9, 200)), (11, 200)), first_busy, (6, 3, 1), 3)
        self.tells(((NOUGHT, ONE, NOUGHT), NOUGHT), first_busy, (0, 1), 2)
        self.tells(((NOUGHT, ONE, NOUGHT), NOUGHT), first_busy, (11, 1), 2)
        self.tells(((NOUGHT,) * 4, ONE), first_busy, (0, 0, 5), 3)
        self.tells(((NOUGHT, NOUGHT, (1, 2), NOUGHT), (1, 2)), first_busy, (1, 0, 1), 3)

    def test_n_0(self):
        for flow in drawn_flows(130, 30):
            if len(flow) > 1:
                self.tells(((NOUGHT,), ONE), first_busy, flow, 0)

    def test_never(self):
        for lot in (1, 2, 12, LONG):
            for n in (0, 1, 5, 16):
                with self.assertRaises(NoRest) as caught:
                    first_busy((lot,), n)
                self.assertIs(NoRest, type(caught.exception))
                self.same(caught.exception.word, "never")

    def test_moment_by_moment(self):
        for flow in some_flows(131):
            if len(flow) > 1:
                some = 1 - Fraction(flow[0], sum(flow))
                for n in (1, 2, 3, 6):
                    works = {x - 1: part / some for x, part in chances_of(flow) if x > 0}
                    self.tells(walked_busy(flow, works, 1, n), first_busy, flow, n)

    def test_sixteen(self):
        for flow in [(6, 3, 1), (1, 0, 1), (0, 3, 1), (0, 1), (12,) * 9, (5, 0, 0, 2)]:
            works = {x - 1: part / (1 - Fraction(flow[0], sum(flow))) for x, part in chances_of(flow) if x > 0}
            self.tells(walked_busy(flow, works, 1, 16), first_busy, flow, 16)

    def test_all_sum_to_one(self):
        for flow in drawn_flows(132, 30):
            if len(flow) > 1:
                row, missing = self.ask(first_busy, flow, 5)
                self.assertEqual(6, len(row))
                self.same(row[0], NOUGHT)
                self.assertEqual(1, sum(Fraction(*share) for share in row + (missing,)))


if __name__ == "__main__":
    unittest.main()
