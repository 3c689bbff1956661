"""Promises 55, 56, 59 and 62: the WORD of a FLOW, and the means of a house that rests."""

import itertools
import unittest
from fractions import Fraction

from hatchwaits.errors import NoRest
from hatchwaits.flows import empty_mean, mean_standing, word_of
from hatchwaits.steprows import step_row
from tests.helpers import LONG, PlainCase, plain
from tests.simulation import chances_of, drawn_flows, one_beat_of_work, sorted_flows


def wanted_word(flow, hands):
    drawn = [k for k, lot in enumerate(flow) for turn in range(lot)]
    if sum(drawn) != hands * len(drawn):
        return "rests" if sum(drawn) < hands * len(drawn) else "runs"
    return "still" if set(drawn) == {hands} else "swings"


class Words(PlainCase):

    def test_each_word_with_one_to_three_hands(self):
        for hands in (1, 2, 3):
            for flow in [(1,), (12,), (0,) * (hands - 1) + (5, 1), (3,) + (0,) * (hands - 1) + (1,)]:
                self.tells("rests", word_of, flow, hands)
            for flow in [(0,) * hands + (5, 1), (0,) * (hands + 1) + (1,), (1,) + (0,) * (2 * hands - 1) + (1, 1)]:
                self.tells("runs", word_of, flow, hands)
            for lot in (1, 2, 12):
                self.tells("still", word_of, (0,) * hands + (lot,), hands)
            for flow in [(0,) * (hands - 1) + (1, 0, 1), (0,) * (hands - 1) + (3, 7, 3), (4,) + (0,) * (2 * hands - 1) + (4,)]:
                self.tells("swings", word_of, flow, hands)

    def test_all_small_ones(self):
        told = set()
        for many in range(5):
            for lots in itertools.product(range(3), repeat=many):
                for last in (1, 2):
                    for hands in (1, 2, 3):
                        word = wanted_word(lots + (last,), hands)
                        self.same(word_of(lots + (last,), hands), word)
                        told.add((word, hands))
        self.assertEqual(12, len(told))

    def test_drawn_ones(self):
        for flow in drawn_flows(110, 100):
            for hands in (1, 2, 3, 4, 9, LONG):
                self.tells(wanted_word(flow, hands), word_of, flow, hands)

    def test_long_lots(self):
        self.tells("rests", word_of, (LONG, 0, LONG - 1), 1)
        self.tells("swings", word_of, (LONG, 0, LONG), 1)
        self.tells("runs", word_of, (LONG - 1, 0, LONG), 1)


class Means(PlainCase):

    def test_plain_ones(self):
        self.tells((6, 1), empty_mean, (6, 3, 1), 3)
        self.tells((1, 5), mean_standing, (6, 3, 1))
        self.tells((4, 1), empty_mean, (7,), 4)
        self.tells((0, 1), mean_standing, (7,))
        self.tells((0, 1), mean_standing, (2, 5))
        self.tells((3, 2), empty_mean, (2, 1), 1)

    def test_w_0(self):
        for flow in sorted_flows(111)["rests"]:
            self.tells((0, 1), empty_mean, flow, 0)

    def test_refused_whatever_w(self):
        for word in ("runs", "swings", "still"):
            for flow in sorted_flows(112)[word]:
                for w in (0, 1, 2, 16):
                    self.refuses(NoRest, {}, empty_mean, flow, w)
                    with self.assertRaises(NoRest) as caught:
                        empty_mean(flow, w)
                    self.same(caught.exception.word, word)
                with self.assertRaises(NoRest) as caught:
                    mean_standing(flow)
                self.assertIs(NoRest, type(caught.exception))
                self.same(caught.exception.word, word)

    def test_by_what_the_first_beat_brings(self):
        for flow in sorted_flows(113)["rests"]:
            for w in range(1, 17):
                on = sum(part * Fraction(*empty_mean(flow, w + x - 1)) for x, part in chances_of(flow))
                self.tells(plain(1 + on), empty_mean, flow, w)

    def test_the_mean_of_the_squares_does_not_change_in_a_beat(self):
        # One beat on, w and x less 1 squared, are as great in the mean as w squared: so w is as told.
        for flow in sorted_flows(114)["rests"]:
            w = Fraction(*self.ask(mean_standing, flow))
            p0 = Fraction(*step_row(flow, 0)[0])
            lack = sum(part * (x - 1) for x, part in chances_of(flow))
            squares = sum(part * (x - 1) ** 2 for x, part in chances_of(flow))
            # From 0, and nothing brought, the WORK is 0 and not -1.
            idle = p0 * dict(chances_of(flow)).get(0, 0)
            self.assertEqual(0, 2 * w * lack + squares - idle)

    def test_the_mean_of_many_steps(self):
        for flow in [(6, 3, 1), (5, 0, 1), (9, 0, 0, 1), (4, 1, 0, 1), (3,), (1, 5), (10, 2, 1, 1)]:
            told = Fraction(*mean_standing(flow))
            near = sum(k * Fraction(*share) for k, share in enumerate(step_row(flow, 60)))
            self.assertLessEqual(near, told)
            self.assertLess(told - near, Fraction(1, 1000))

    def test_one_beat_of_work(self):
        self.assertEqual([0, 0, 1, 3, 4], [one_beat_of_work(*each) for each in ((0, 0), (0, 1), (2, 0), (0, 4), (2, 3))])


if __name__ == "__main__":
    unittest.main()
