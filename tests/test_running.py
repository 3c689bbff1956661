"""Promises 6, 63, 64 and 68: RUN PAPERS told, and the chance ever to be empty that they bound."""

import unittest
from fractions import Fraction

from hatchwaits.comings import beats_of, flow_of
from hatchwaits.errors import NoRest
from hatchwaits.houses import work_left
from hatchwaits.runchecker import lets_run
from hatchwaits.running import ever_bound, run_paper
from tests.helpers import LONG, RULES, PlainCase, chance, plain, right_fraction
from tests.simulation import drawn_beats, drawn_stand, led, sorted_flows, weighed_beats, word_for

# The lots times what each brings above the hands, added, are 1 of each: no less can be above nought.
ABOVE_BY_LITTLE = [
    ((11, 0, 12), 1), ((11, 12, 12), 1), ((0, 11, 0, 12), 2), ((0, 0, 11, 0, 12), 3), ((6, 0, 0, 0, 0, 0, 0, 0, 1), 1),
    ((11, 2, 1, 0, 0, 1, 0, 0, 1), 1), ((12, 10, 0, 11, 0, 3, 1, 1, 1), 2), ((12, 6, 0, 1, 10, 0, 1, 0, 1), 2),
    ((11, 4, 8, 9, 9, 6, 1, 4, 2), 3), ((12, 2, 7, 11, 8, 3, 3, 5, 1), 3)]


def ever_empty(house, beats, stand, n):
    """The chance that the house is empty at one of the moments 0 to n."""
    chances, told = {stand: Fraction(1)}, Fraction(0)
    for turn in range(n + 1):
        told += chances.pop((), Fraction(0))
        following = {}
        for each, share in chances.items():
            for beat, part in weighed_beats(beats):
                to = led(house, each, beat)
                following[to] = following.get(to, Fraction(0)) + share * part
        chances = following
    return told


class Told(PlainCase):

    def right(self, flow, hands):
        paper = self.ask(run_paper, flow, hands)
        self.assertTrue(right_fraction(paper))
        self.assertIs(True, lets_run(flow, hands, paper), (flow, hands, paper))
        return paper

    def test_what_is_told_is_let_by(self):
        for hands in (1, 2, 3):
            told = sorted_flows(170 + hands, 150, hands)
            self.assertGreater(len(told["runs"]), 50)
            for flow in told["runs"] + told["still"]:
                self.right(flow, hands)

    def test_above_by_very_little(self):
        for flow, hands in ABOVE_BY_LITTLE:
            self.assertEqual(1, sum(lot * (k - hands) for k, lot in enumerate(flow)))
            self.right(flow, hands)
        for hands in (1, 2, 3):
            for lots in (10 ** 6, 10 ** 30, LONG):
                self.right((0,) * (hands - 1) + (lots, 3, lots + 1), hands)

    def test_above_by_much(self):
        for hands in (1, 2, 3):
            for flow in [(0,) * 8 + (1,), (12,) + (0,) * 7 + (12,), (0, 1) + (0,) * 6 + (12,), (0, 0, 0, 0, 1),
                         (1, 0, 0, 0, 0, 12)]:
                self.right(flow, hands)

    def test_lots_of_nought_at_nought_and_at_one(self):
        for flow in [(0, 1, 1), (0, 0, 1), (0, 12, 0, 1), (0, 0, 0, 7), (1, 0, 2), (5, 0, 0, 0, 12)]:
            self.right(flow, 1)
        for flow in [(0, 0, 1), (0, 0, 12, 1), (0, 1, 0, 3), (1, 0, 0, 0, 12), (0, 0, 0, 1)]:
            self.right(flow, 2)

    def test_still_ones(self):
        for hands in (1, 2, 3):
            for lot in (1, 5, 12):
                self.right((0,) * hands + (lot,), hands)

    def test_refused(self):
        for hands in (1, 2, 3):
            told = sorted_flows(174 + hands, 100, hands)
            for word in ("rests", "swings"):
                self.assertGreater(len(told[word]), 3)
                for flow in told[word]:
                    self.refuses(NoRest, {"word": word}, run_paper, flow, hands)
        self.refuses(NoRest, {"word": "rests"}, run_paper, (1,), 1)
        self.refuses(NoRest, {"word": "rests"}, run_paper, (0, 1), 2)
        self.refuses(NoRest, {"word": "swings"}, run_paper, (1, 0, 1), 1)
        self.refuses(NoRest, {"word": "swings"}, run_paper, (0, 0, 3, 0, 3), 3)


class Bound(PlainCase):

    def test_powers(self):
        for paper in [(1, 2), (2, 3), (999, 1000), (1, 10 ** 12 - 1), (10 ** 12 - 2, 10 ** 12 - 1), (4, 9)]:
            for w in range(17):
                self.tells(plain(Fraction(*paper) ** w), ever_bound, paper, w)
        self.tells((1, 1), ever_bound, (1, 2), 0)
        self.tells((8, 27), ever_bound, (2, 3), 3)

    def test_of_told_papers(self):
        for hands in (1, 2, 3):
            for flow in sorted_flows(178, hands=hands)["runs"]:
                paper = run_paper(flow, hands)
                for w in (0, 1, 2, 16):
                    told = self.ask(ever_bound, paper, w)
                    self.assertTrue(right_fraction(told))
                    self.assertEqual(Fraction(*told), Fraction(*paper) ** w)

    def test_the_chance_ever_to_be_empty(self):
        draw = chance(179)
        tried = near = 0
        while tried < 60:
            beats, hands = drawn_beats(draw, 3, 2, 3), draw.randint(1, 2)
            flow = flow_of(beats)
            if word_for(flow, hands) not in ("runs", "still"):
                continue
            house = (hands, None, RULES[tried % 8])
            stand = drawn_stand(draw, house, 2)
            bound = Fraction(*ever_bound(run_paper(flow, hands), work_left(stand)))
            told = ever_empty(house, beats, stand, 6)
            self.assertLessEqual(told, bound)
            tried += 1
            near += 0 < told < 1
        self.assertGreater(near, 5)

    def test_the_least_paper_of_one_hand_is_no_more_than_needed(self):
        # From a WORK of 1 this house is ever empty by a chance of one half, so no lesser paper than that can be right.
        house, beats = (1, None, "first"), (((), 1), (((0, 2),), 2))
        paper = run_paper((1, 0, 2), 1)
        told = ever_empty(house, beats, ((0, 1, False),), 9)
        self.assertLess(told, Fraction(1, 2))
        self.assertLess(Fraction(2, 5), told)
        self.assertLessEqual(Fraction(1, 2), Fraction(*paper))

    def test_beats_of_counts_and_works(self):
        beats = beats_of((1, 2, 2), (1, 1, 1))
        flow = flow_of(beats)
        paper = run_paper(flow, 2)
        for rule in RULES:
            for stand in [((0, 1, False),), ((0, 2, False), (1, 1, False))]:
                told = ever_empty((2, None, rule), beats, stand, 2)
                self.assertLessEqual(told, Fraction(*ever_bound(paper, work_left(stand))))


if __name__ == "__main__":
    unittest.main()
