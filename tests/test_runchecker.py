"""Promises 2, 8 and 63: the checker of RUN PAPERS."""

import unittest
from fractions import Fraction

from hatchwaits.errors import NoPaper
from hatchwaits.lots import times_over
from hatchwaits.runchecker import lets_run
from tests.helpers import LONG, ZOO, PlainCase, chance, plain, right_fraction, variants
from tests.papers import mutated
from tests.simulation import chances_of, sorted_flows

HALF = (1, 2)
# Of each of these, by its hands, the mean is just as much as it may be at one half, more below and less above.
JUST_AT_HALF = [((1, 0, 2), 1), ((0, 1, 0, 2), 2), ((1, 0, 0, 0, 4), 2), ((0, 0, 1, 0, 2), 3), ((1, 0, 0, 0, 0, 0, 8), 3)]
STILL = [((0, 7), 1), ((0, 0, 1), 2), ((0, 0, 0, 12), 3)]
A_LITTLE_BELOW_HALF = (10 ** 199 - 1, 2 * 10 ** 199)
A_LITTLE_ABOVE_HALF = (10 ** 199 + 1, 2 * 10 ** 199)
BETWEEN = [HALF, (1, 3), (2, 3), (9, 10), (1, 999), (998, 999), (1, LONG), (LONG - 1, LONG), A_LITTLE_BELOW_HALF,
           A_LITTLE_ABOVE_HALF]
NOT_BETWEEN = [(0, 1), (1, 1), (2, 1), (3, 2), (-1, 2), (-1, 1), (-7, 3), (LONG, 1), (-LONG, 1), (LONG, LONG - 1),
               (-LONG, LONG - 1), (-1, LONG)]
NO_FRACTIONS = [None, True, False, 0, 1, "", "1/2", (), (1,), [1, 2], (1, 2, 3), (2, 4), (0, 2), (1, 0), (-1, -2), (1, -2),
                (True, 2), (1, True), ("1", 2), (1, "2"), (None, 2), ((1, 2),), ((1, 2), (1, 2)), (LONG, 2 * LONG),
                (LONG, LONG), (0, LONG), (1, -LONG)]


def due(flow, hands, thing):
    """All refusals that are due, in their order."""
    if not right_fraction(thing):
        yield "shape"
    z = Fraction(*thing)
    if not 0 < z < 1:
        yield "between"
    if sum(part * z ** k for k, part in chances_of(flow)) > z ** hands:
        yield "rises"


class Checker(PlainCase):

    def refused(self, word, flow, hands, thing):
        handed = repr((flow, thing))
        for turn in range(2):
            with self.assertRaises(NoPaper) as caught:
                lets_run(flow, hands, thing)
            self.assertIs(NoPaper, type(caught.exception))
            self.same((caught.exception.word, caught.exception.number), (word, -1))
            self.assertEqual(handed, repr((flow, thing)))

    def let_by(self, flow, hands, thing):
        self.assertIs(True, self.ask(lets_run, flow, hands, thing), (flow, hands, thing))

    def as_due(self, flow, hands, thing):
        """The checker tells what promise 63 does; told is the word of it."""
        wanted = next(due(flow, hands, thing), None)
        if wanted is None:
            self.let_by(flow, hands, thing)
            return "right"
        self.refused(wanted, flow, hands, thing)
        return wanted

    def test_just_as_much(self):
        for flow, hands in JUST_AT_HALF:
            for thing in (HALF, (2, 3), (99, 100), A_LITTLE_ABOVE_HALF, (10 ** 199 - 1, 10 ** 199)):
                self.let_by(flow, hands, thing)
            for thing in (A_LITTLE_BELOW_HALF, (1, 3), (49, 100), (1, LONG)):
                self.refused("rises", flow, hands, thing)
        for flow, hands in STILL:
            for thing in BETWEEN:
                self.let_by(flow, hands, thing)

    def test_more_and_fewer_hands(self):
        self.let_by((0, 0, 0, 1), 1, (1, 3))
        self.let_by((0, 0, 0, 1), 2, (1, 3))
        self.let_by((0, 0, 0, 1), 3, (1, 3))
        self.refused("rises", (0, 0, 0, 1), 4, (1, 3))
        self.refused("rises", (1,), 1, HALF)
        self.refused("rises", (1,), 3, HALF)

    def test_shape(self):
        for flow, hands in JUST_AT_HALF + STILL + [((1,), 1), ((3, 1), 2)]:
            for thing in NO_FRACTIONS:
                self.refused("shape", flow, hands, thing)

    def test_between(self):
        for flow, hands in JUST_AT_HALF + STILL + [((1,), 1), ((3, 1), 2)]:
            for thing in NOT_BETWEEN:
                self.refused("between", flow, hands, thing)

    def test_none_where_it_rests_or_swings(self):
        for hands in (1, 2, 3):
            told = sorted_flows(160 + hands, hands=hands)
            for flow in told["rests"] + told["swings"]:
                for thing in BETWEEN:
                    self.refused("rises", flow, hands, thing)

    def test_flows_of_every_word(self):
        told = {}
        for hands in (1, 2, 3):
            for flows in sorted_flows(163 + hands, hands=hands).values():
                for flow in flows[:25]:
                    for thing in BETWEEN + NOT_BETWEEN + [plain(Fraction(k, 24)) for k in range(25)]:
                        word = self.as_due(flow, hands, thing)
                        told[word] = told.get(word, 0) + 1
        self.assertGreater(min(told.get(word, 0) for word in ("right", "between", "rises")), 100, told)

    def test_the_zoo(self):
        for flow, hands in JUST_AT_HALF[:3] + [((0, 1), 1), ((2, 1), 1), ((1, 0, 1), 1)]:
            for thing in ZOO + [(thing, 2) for thing in ZOO] + [(1, thing) for thing in ZOO] + [(thing,) for thing in ZOO]:
                self.as_due(flow, hands, thing)

    def test_each_place_of_a_paper(self):
        draw = chance(167)
        for flow, hands in JUST_AT_HALF + STILL + [((2, 1), 1)]:
            for right in BETWEEN:
                for thing in variants(right):
                    self.as_due(flow, hands, thing)
                for turn in range(20):
                    self.as_due(flow, hands, mutated(draw, mutated(draw, right)))

    def test_long_flows_and_long_numbers(self):
        # What was told may be handed in again: a FLOW of three hundred numbers of eighty figures.
        flow = times_over((1, 0, 0, 0, 0, 0, 0, 0, 12), 40)
        self.let_by(flow, 3, A_LITTLE_ABOVE_HALF)
        self.let_by(flow, 3, (99, 100))
        self.refused("rises", flow, 300, A_LITTLE_ABOVE_HALF)
        self.let_by((10 ** 199, 0, 2 * 10 ** 199), 1, HALF)
        self.refused("rises", (10 ** 199 + 1, 0, 2 * 10 ** 199), 1, HALF)
        self.let_by((10 ** 199 - 1, 0, 2 * 10 ** 199), 1, HALF)


if __name__ == "__main__":
    unittest.main()
