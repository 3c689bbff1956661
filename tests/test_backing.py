"""Promises 6, 66, 67 and 68: BACK PAPERS told, and the mean beats until hands are free that they bound."""

import unittest
from fractions import Fraction

from hatchwaits.backchecker import height, lets_back
from hatchwaits.backing import back_bound, back_paper
from hatchwaits.comings import beats_of, flow_of
from hatchwaits.errors import NoPaper, NoRest
from hatchwaits.runchecker import lets_run
from hatchwaits.running import run_paper
from tests.helpers import LONG, RULES, PlainCase, chance, plain, right_fraction
from tests.simulation import drawn_beats, drawn_stand, greatest, led, weighed_beats, word_for

NOBODY = (((), 5),)


def sorted_beats(seed, turns, hands):
    """Drawn BEATS by the words of their FLOWS, some of which bring just the hands."""
    draw = chance(seed)
    told = {"rests": [NOBODY], "runs": [], "swings": [], "still": []}
    each_one = tuple((0, 1) for k in range(hands))
    told["still"] += [((each_one, 3),), ((((0, hands),), 2), (((1, hands),), 1))]
    told["swings"] += [(((), 4), (each_one + each_one, 4)), (((), 1), (((0, hands),), 1), (((1, 2 * hands),), 1))]
    for turn in range(turns):
        beats = drawn_beats(draw, 6, draw.randint(1, 2), draw.randint(1, 3))
        told[word_for(flow_of(beats), hands)].append(beats)
    return told


def mean_until_free(house, beats, stand, n):
    """The mean of the first moment at which fewer are in than there are hands, n in the place of a later one."""
    chances, told = {stand: Fraction(1)}, Fraction(0)
    for turn in range(n):
        busy = {each: share for each, share in chances.items() if len(each) >= house[0]}
        told += sum(busy.values())
        chances = {}
        for each, share in busy.items():
            for beat, part in weighed_beats(beats):
                to = led(house, each, beat)
                chances[to] = chances.get(to, Fraction(0)) + share * part
    return told


class Told(PlainCase):

    def right(self, beats, hands, most):
        paper = self.ask(back_paper, beats, hands, most)
        self.assertIs(tuple, type(paper))
        self.assertIs(True, lets_back(beats, hands, paper), (beats, hands, most))
        drop, heights = paper
        self.assertTrue(right_fraction(drop) and all(map(right_fraction, heights)))
        self.assertGreaterEqual(len(heights), max(1, most, greatest(beats)))
        return paper

    def test_what_is_told_is_let_by(self):
        for hands in (1, 2, 3):
            rests = sorted_beats(190 + hands, 120, hands)["rests"]
            self.assertGreater(len(rests), 15)
            for at, beats in enumerate(rests):
                for most in (0, 1, greatest(beats), at % 41, 40):
                    self.right(beats, hands, most)

    def test_each_most(self):
        beats = (((), 3), (((0, 1), (1, 2)), 1))
        for most in range(41):
            self.right(beats, 1, most)
            self.right(NOBODY, 3, most)

    def test_nobody_comes(self):
        for hands in (1, 2, 3):
            for beats in (NOBODY, (((), 1),), (((), LONG),)):
                self.right(beats, hands, 0)

    def test_very_little_lacks(self):
        for hands in (1, 2, 3):
            for lot in (12, 10 ** 6, LONG):
                self.right((((), 1), (((0, hands),), lot)), hands, 5)
                self.right((((), lot + 1), (((0, hands), (1, hands)), lot)), hands, 0)
        self.right(((((0, 1),), 12), (((0, 1), (1, 1)), 11)), 2, 3)
        self.right(beats_of((2, 0, 0, 1), (12, 11)), 2, 0)

    def test_refused(self):
        for hands in (1, 2, 3):
            told = sorted_beats(194 + hands, 120, hands)
            for word in ("runs", "swings", "still"):
                self.assertGreater(len(told[word]), 1)
                for beats in told[word]:
                    for most in (0, 1, 40):
                        self.refuses(NoRest, {"word": word}, back_paper, beats, hands, most)


class Bound(PlainCase):

    def test_height_over_drop(self):
        paper = ((2, 3), ((1, 3), (1, 2), (5, 2)))
        self.tells((0, 1), back_bound, paper, ())
        self.tells((1, 2), back_bound, paper, ((0, 1, False),))
        self.tells((5, 1), back_bound, paper, ((0, 3, False), (1, 2, True), (1, 1, False)))
        self.tells((3 * LONG, 7), back_bound, ((7, LONG), ((1, 1), (3, 1))), ((1, 2, False),))

    def test_of_papers_that_are_not_let_by(self):
        # Point 66 asks no more of these than a drop above nought and heights that rise from nought.
        draw = chance(198)
        for turn in range(200):
            lefts, total = [], 0
            for k in range(8):
                total += Fraction(draw.randint(1, 10 ** 5), draw.randint(1, 10))
                lefts.append(plain(total))
            drop = Fraction(draw.randint(1, 10 ** 12 - 1), draw.randint(1, 10 ** 12 - 1))
            stand = drawn_stand(draw, (draw.randint(1, 3), None, draw.choice(RULES)))
            wanted = sum((Fraction(*lefts[left - 1]) for rank, left, begun in stand), Fraction(0))
            self.tells(plain(wanted), height, (plain(drop), tuple(lefts)), stand)
            self.tells(plain(wanted / drop), back_bound, (plain(drop), tuple(lefts)), stand)

    def test_the_mean_until_hands_are_free(self):
        draw = chance(199)
        tried = late = 0
        while tried < 80:
            hands = draw.randint(1, 3)
            beats = drawn_beats(draw, 3, 2, 2)
            if word_for(flow_of(beats), hands) != "rests":
                continue
            house = (hands, draw.choice([None, 3, 4]), RULES[tried % 8])
            stand = drawn_stand(draw, house, 4)
            bound = Fraction(*back_bound(back_paper(beats, hands, 6), stand))
            told = mean_until_free(house, beats, stand, 6)
            self.assertLessEqual(told, bound)
            tried += 1
            late += told > 1
        self.assertGreater(late, 10)

    def test_the_bound_may_be_met(self):
        for rule in RULES:
            stand = ((0, 5, False),)
            self.assertEqual(5, mean_until_free((1, None, rule), NOBODY, stand, 9))
            self.tells((5, 1), back_bound, back_paper(NOBODY, 1, 5), stand)


class NeverBoth(PlainCase):

    def test_just_one_sort_or_none(self):
        for hands in (1, 2, 3):
            for word, many in sorted_beats(200 + hands, 60, hands).items():
                for beats in many:
                    told = []
                    for function, given in ((run_paper, (flow_of(beats), hands)), (back_paper, (beats, hands, 3))):
                        try:
                            told.append(function(*given))
                        except NoRest as refusal:
                            self.assertEqual(word, refusal.word)
                    self.assertEqual(0 if word == "swings" else 1, len(told))

    def test_what_is_no_paper_whoever_wrote_it(self):
        draw = chance(204)
        fractions = [plain(Fraction(k, 12)) for k in range(1, 12)] + [(1, LONG), (LONG - 1, LONG)]
        for hands in (1, 2, 3):
            for word, many in sorted_beats(205 + hands, 40, hands).items():
                for beats in many:
                    if word in ("rests", "swings"):
                        for z in fractions:
                            self.assertRaises(NoPaper, lets_run, flow_of(beats), hands, z)
                    if word != "rests":
                        for drop in fractions:
                            rises = [Fraction(draw.randint(1, 9), draw.randint(1, 3)) for k in range(6)]
                            heights = tuple(plain(sum(rises[:k + 1])) for k in range(6))
                            self.assertRaises(NoPaper, lets_back, beats, hands, (drop, heights))


if __name__ == "__main__":
    unittest.main()
