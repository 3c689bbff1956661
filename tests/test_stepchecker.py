"""Promises 2, 8 and 61: the checker of STEP PAPERS."""

import itertools
import unittest
from fractions import Fraction

from hatchwaits.errors import NoPaper
from hatchwaits.stepchecker import lets_steps
from hatchwaits.steprows import step_row
from tests.helpers import LONG, ZOO, PlainCase, chance, nest, plain, right_fraction, variants
from tests.papers import mutated
from tests.simulation import chances_of, drawn_flows, sorted_flows

NOUGHT, ONE = (0, 1), (1, 1)
FLOW = (6, 3, 1)
PAPER = ((5, 6), (5, 36), (5, 216), (5, 1296))


def due(flow, thing):
    """All refusals that are due, in their order."""
    if type(thing) is not tuple or thing == ():
        yield ("shape", -1)
    for k, part in enumerate(thing):
        if not right_fraction(part):
            yield ("shape", k)
    chances = dict(chances_of(flow))
    lack = 1 - sum(x * part for x, part in chances.items())
    if lack <= 0:
        yield ("rest", -1)
    shares = [Fraction(*part) for part in thing]
    if shares[0] * chances[0] != lack:
        yield ("first", 0)
    for k in range(1, len(shares)):
        above = sum(shares[j] * sum(part for x, part in chances.items() if x >= k + 1 - j) for j in range(k))
        if shares[k] * chances[0] != above:
            yield ("cut", k)


class Checker(PlainCase):

    def refused(self, word, number, flow, thing):
        handed = repr(thing)
        for turn in range(2):
            with self.assertRaises(NoPaper) as caught:
                lets_steps(flow, thing)
            self.assertIs(NoPaper, type(caught.exception))
            self.same((caught.exception.word, caught.exception.number), (word, number))
            self.assertEqual(handed, repr(thing))

    def as_due(self, flow, thing):
        """The checker tells what promise 61 does; told is the word of it."""
        wanted = next(due(flow, thing), True)
        if wanted is True:
            self.assertIs(True, self.ask(lets_steps, flow, thing), repr(thing)[:300])
            return "right"
        self.refused(*wanted, flow, thing)
        return wanted[0]

    def test_right_ones(self):
        self.assertIs(True, self.ask(lets_steps, FLOW, PAPER))
        for flow in sorted_flows(150)["rests"]:
            for n in (0, 1, 2, 7, 16):
                self.assertIs(True, self.ask(lets_steps, flow, step_row(flow, n)))
                self.assertEqual("right", self.as_due(flow, step_row(flow, n)))

    def test_long_right_ones(self):
        self.assertIs(True, lets_steps(FLOW, step_row(FLOW, 120)))
        for flow in ((3,), (1, 1), (5, 12)):
            self.assertIs(True, lets_steps(flow, (ONE,) + (NOUGHT,) * 1600))
            self.refused("cut", 1600, flow, (ONE,) + (NOUGHT,) * 1599 + ((1, LONG),))

    def test_shape(self):
        for thing in [None, True, 1, "", (), [], list(PAPER), "12", [PAPER], LONG]:
            self.refused("shape", -1, FLOW, thing)
        self.refused("shape", 0, FLOW, ((),))
        for k in range(len(PAPER)):
            for part in [None, True, 0, 5, "5", (), (5,), [5, 6], (5, 6, 7), (10, 12), (5, 0), (5, -6), (-5, -6), (0, 2),
                         (True, 1), (1, True), (False, 1), ("5", 6), ((5, 6),), (2 * LONG, 4 * LONG), (LONG, -1),
                         (None, 1), (1, None)]:
                self.refused("shape", k, FLOW, PAPER[:k] + (part,) + PAPER[k + 1:])
                self.refused("shape", k, FLOW, PAPER[:k] + (part,) * 2)

    def test_rest(self):
        for word in ("runs", "swings", "still"):
            for flow in sorted_flows(151)[word]:
                for thing in (PAPER, (ONE,), (NOUGHT,), (NOUGHT, NOUGHT), ((-1, 2), (7, 3))):
                    self.refused("rest", -1, flow, thing)
                self.refused("shape", 1, flow, (ONE, (2, 2)))
                self.refused("shape", -1, flow, ())

    def test_first(self):
        for first in [NOUGHT, ONE, (5, 7), (-5, 6), (4, 5), (1, 2), (LONG, 6), (5, LONG), (-LONG, 1)]:
            self.refused("first", 0, FLOW, (first,))
            self.refused("first", 0, FLOW, (first,) + PAPER[1:])
            self.refused("first", 0, FLOW, (first, NOUGHT, ONE))

    def test_cut(self):
        for k in (1, 2, 3):
            for part in [NOUGHT, ONE, (-5, 36), (5, 37), (LONG, 7), (-LONG, 7), (5, LONG)]:
                self.refused("cut", k, FLOW, PAPER[:k] + (part,) + PAPER[k + 1:])
                self.refused("cut", k, FLOW, PAPER[:k] + (part,) * 3)
        self.refused("cut", 1, FLOW, PAPER[:1] + PAPER[2:])
        self.refused("cut", 4, FLOW, PAPER + (NOUGHT,))
        self.refused("cut", 2, (2, 0, 1), ((1, 2), (1, 4), (1, 4)))

    def test_the_first_that_is_due(self):
        self.refused("shape", 2, FLOW, (ONE, ONE, None))
        self.refused("shape", 2, (0, 1), (ONE, ONE, (2, 4)))
        self.refused("rest", -1, (0, 1), (NOUGHT, ONE, (5, 9)))
        self.refused("first", 0, FLOW, (ONE, ONE, (5, 9)))
        self.refused("cut", 1, FLOW, ((5, 6), ONE, (5, 9)))

    def test_the_zoo(self):
        for flow in (FLOW, (0, 1), (1, 0, 1), (0, 0, 1), (5,)):
            for thing in ZOO:
                self.as_due(flow, thing)
                for whole in ((thing,), (thing, thing), PAPER + (thing,), (thing,) + PAPER, (ONE, thing), [thing]):
                    self.as_due(flow, whole)
            for wrap in (lambda thing: (thing,), lambda thing: [thing]):
                self.as_due(flow, nest(20, wrap))

    def test_each_place_of_a_paper(self):
        told = {}
        for flow in sorted_flows(152)["rests"][::3] + [(0, 1), (1, 0, 1), (0, 0, 1)]:
            right = step_row(flow, 3) if next(due(flow, (ONE,)), None) != ("rest", -1) else PAPER
            for thing in variants(right):
                word = self.as_due(flow, thing)
                told[word] = told.get(word, 0) + 1
        words = ("right", "shape", "rest", "first", "cut")
        self.assertGreater(min(told.get(word, 0) for word in words), 10, told)

    def test_several_places_at_once(self):
        draw = chance(153)
        for flow in drawn_flows(154, 20):
            right = step_row(flow, 4) if next(due(flow, (ONE,)), None) != ("rest", -1) else PAPER
            for turn in range(25):
                thing = right
                for again in range(draw.randint(1, 3)):
                    thing = mutated(draw, thing)
                self.as_due(flow, thing)

    def test_papers_of_other_flows(self):
        flows = sorted_flows(155)["rests"][:14]
        alike = 0
        for flow, other in itertools.product(flows, flows):
            alike += self.as_due(flow, step_row(other, 4)) == "right"
        self.assertGreater(alike, 13)

    def test_scaled_ones(self):
        for flow in sorted_flows(156)["rests"]:
            for factor in (Fraction(0), Fraction(2), Fraction(-1), Fraction(LONG, LONG + 1)):
                scaled = tuple(plain(Fraction(*share) * factor) for share in step_row(flow, 3))
                self.refused("first", 0, flow, scaled)


if __name__ == "__main__":
    unittest.main()
