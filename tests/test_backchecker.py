"""Promises 2, 8, 65 and 66: the checker of BACK PAPERS, and HEIGHTS."""

import unittest
from fractions import Fraction

from hatchwaits.backchecker import height, lets_back
from hatchwaits.comings import beats_of
from hatchwaits.errors import NoPaper
from tests.helpers import LONG, ZOO, PlainCase, chance, nest, plain, right_fraction, variants
from tests.papers import mutated
from tests.simulation import drawn_beats, drawn_stand, greatest, weighed_beats

BEATS = (((), 3), (((0, 1), (1, 2)), 1))
PAPER = ((1, 4), ((1, 1), (2, 1)))
NOBODY = (((), 5),)
HUNDREDS = 10 ** 199


def rises_of(heights):
    return [Fraction(*each) - Fraction(*ahead) for ahead, each in zip(((0, 1),) + heights, heights)]


def room_for_drop(beats, hands, heights):
    """The greatest drop that heights let."""
    brought = sum(part * sum(Fraction(*heights[work - 1]) for rank, work in beat) for beat, part in weighed_beats(beats))
    return hands * min(rises_of(heights)) - brought


def shaped(beats, thing):
    if type(thing) is not tuple or len(thing) != 2 or not right_fraction(thing[0]) or type(thing[1]) is not tuple:
        return False
    return thing[1] != () and len(thing[1]) >= greatest(beats) and all(map(right_fraction, thing[1]))


def due(beats, hands, thing):
    """All refusals that are due, in their order."""
    if not shaped(beats, thing):
        yield ("shape", -1)
    drop, heights = thing
    if Fraction(*drop) <= 0:
        yield ("drop", -1)
    for k, rise in enumerate(rises_of(heights)):
        if rise <= 0:
            yield ("step", k)
    if Fraction(*drop) > room_for_drop(beats, hands, heights):
        yield ("fall", -1)


def drawn_heights(draw, many):
    """Heights that rise, some of their steps alike."""
    told, height_so_far = [], Fraction(0)
    for turn in range(many):
        height_so_far += draw.choice([Fraction(1), Fraction(1), Fraction(draw.randint(9, 12), draw.randint(8, 9))])
        told.append(plain(height_so_far))
    return tuple(told)


class Checker(PlainCase):

    def refused(self, word, number, beats, hands, thing):
        handed = repr((beats, thing))
        for turn in range(2):
            with self.assertRaises(NoPaper) as caught:
                lets_back(beats, hands, thing)
            self.assertIs(NoPaper, type(caught.exception))
            self.same((caught.exception.word, caught.exception.number), (word, number))
            self.assertEqual(handed, repr((beats, thing)))

    def let_by(self, beats, hands, thing):
        self.assertIs(True, self.ask(lets_back, beats, hands, thing), repr((beats, hands, thing))[:500])

    def as_due(self, beats, hands, thing):
        """The checker tells what promise 66 does; told is the word of it."""
        wanted = next(due(beats, hands, thing), None)
        if wanted is None:
            self.let_by(beats, hands, thing)
            return "right"
        self.refused(*wanted, beats, hands, thing)
        return wanted[0]

    def test_right_ones(self):
        self.let_by(BEATS, 1, PAPER)
        self.let_by(BEATS, 1, ((1, 5), ((1, 1), (2, 1))))
        self.let_by(BEATS, 1, ((1, 4), ((1, 1), (2, 1), (3, 1), (5, 1), (105, 1))))
        self.let_by(BEATS, 1, ((1, 8), ((1, 2), (1, 1))))
        self.let_by(BEATS, 2, ((5, 4), ((1, 1), (2, 1))))
        self.let_by(BEATS, 2, ((1, 1), ((1, 1), (3, 1))))
        self.let_by(BEATS, 3, ((3, 4), ((1, 1), (8, 1))))
        self.let_by(((((0, 1),), 1),), 2, ((1, 2), ((1, 2), (1, 1))))

    def test_just_as_many_heights_and_more(self):
        steep = ((1, 100), ((1, 1), (2, 1), (301, 100)))
        self.let_by(BEATS, 1, steep)
        for many in range(2, 41):
            self.let_by(BEATS, 1, ((1, 4), tuple((k + 1, 1) for k in range(many))))
        self.refused("shape", -1, BEATS, 1, ((1, 4), ((1, 1),)))
        self.refused("shape", -1, ((((0, 3),), 1), (((1, 1),), 1)), 3, ((1, 4), ((1, 1), (2, 1))))

    def test_the_least_step_may_be_any(self):
        third = ((3, 1), (7, 2), (4, 1))
        for k in range(3):
            heights = [(2, 1), (4, 1), (6, 1)]
            self.let_by(BEATS, 2, ((5, 2), tuple(heights)))
            heights[k:] = [plain(Fraction(*each) - 1) for each in heights[k:]]
            room = room_for_drop(BEATS, 2, tuple(heights))
            self.assertLess(0, room)
            self.let_by(BEATS, 2, (plain(room), tuple(heights)))
            self.refused("fall", -1, BEATS, 2, (plain(room + Fraction(1, LONG)), tuple(heights)))
        self.as_due(BEATS, 3, ((1, 2), third))

    def test_nobody_comes(self):
        self.let_by(NOBODY, 1, ((1, 1), ((1, 1),)))
        self.let_by(NOBODY, 3, ((3, 1), ((1, 1),)))
        self.let_by(NOBODY, 2, ((2, LONG), ((1, LONG),)))
        self.let_by(NOBODY, 1, ((1, 1), ((1, 1), (2, 1), (9, 1))))
        self.refused("shape", -1, NOBODY, 1, ((1, 1), ()))
        self.refused("fall", -1, NOBODY, 1, ((2, 1), ((1, 1),)))
        self.refused("fall", -1, NOBODY, 3, ((HUNDREDS * 3 + 1, HUNDREDS), ((1, 1),)))
        self.refused("step", 0, NOBODY, 1, ((1, 1), ((0, 1),)))

    def test_shape(self):
        for thing in [None, True, 0, "", "shape", (), [], ((1, 4),), ((1, 4), (1, 1)), list(PAPER), PAPER + ((),),
                      ((1, 4), [(1, 1), (2, 1)]), ((1, 4), ()), ((1, 4), None), (None, PAPER[1]), (PAPER[1], (1, 4)),
                      [(1, 4), ((1, 1), (2, 1))], ((1, 4), (1, 1), (2, 1)), (1, ((1, 1), (2, 1))), ((1, 4), "12")]:
            self.refused("shape", -1, BEATS, 1, thing)
        for part in [None, True, 0, 5, "5", (), (5,), [5, 6], (5, 6, 7), (10, 12), (5, 0), (5, -6), (-5, -6), (0, 2),
                     (True, 1), (1, True), (False, 1), ("5", 6), ((5, 6),), (2 * LONG, 4 * LONG), (LONG, -1)]:
            self.refused("shape", -1, BEATS, 1, (part, PAPER[1]))
            for k in range(4):
                heights = ((1, 1), (2, 1), (3, 1), (4, 1))
                self.refused("shape", -1, BEATS, 1, ((1, 4), heights[:k] + (part,) + heights[k + 1:]))

    def test_drop(self):
        for drop in [(0, 1), (-1, 4), (-1, LONG), (-LONG, 1), (-1, 1)]:
            self.refused("drop", -1, BEATS, 1, (drop, PAPER[1]))
            self.refused("drop", -1, BEATS, 1, (drop, ((2, 1), (1, 1))))
            self.refused("drop", -1, NOBODY, 3, (drop, ((1, 1),)))

    def test_step(self):
        for first in [(0, 1), (-1, 1), (-LONG, 7), (-1, LONG)]:
            self.refused("step", 0, BEATS, 1, ((1, 4), (first, (2, 1))))
            self.refused("step", 0, BEATS, 1, ((1, 4), (first, first, first)))
        rising = tuple((k + 1, 1) for k in range(8))
        for k in range(1, 8):
            for part in [rising[k - 1], (0, 1), (-1, 2), plain(k - Fraction(1, LONG)), (-LONG, 1)]:
                self.refused("step", k, BEATS, 1, ((1, 4), rising[:k] + (part,) + rising[k + 1:]))
                self.refused("step", k, BEATS, 1, ((1, 4), rising[:k] + (part,) * 3))

    def test_fall(self):
        self.refused("fall", -1, BEATS, 1, ((1, 3), PAPER[1]))
        self.refused("fall", -1, BEATS, 1, (plain(Fraction(1, 4) + Fraction(1, LONG)), PAPER[1]))
        self.refused("fall", -1, BEATS, 1, ((LONG, 1), PAPER[1]))
        self.refused("fall", -1, BEATS, 1, ((1, 100), ((1, 1), (3, 1))))
        self.refused("fall", -1, BEATS, 1, ((1, 100), ((2, 1), (3, 1))))
        self.refused("fall", -1, BEATS, 1, ((1, 4), ((1, 1), (2, 1), (5, 2))))
        self.refused("fall", -1, ((((0, 1),), 1),), 1, ((1, LONG), ((1, 1),)))

    def test_the_first_that_is_due(self):
        self.refused("shape", -1, BEATS, 1, ((0, 1), ((1, 1),)))
        self.refused("shape", -1, BEATS, 1, ((-1, 1), ((1, 1), (1, 1), None)))
        self.refused("drop", -1, BEATS, 1, ((0, 1), ((0, 1), (0, 1))))
        self.refused("step", 0, BEATS, 1, ((9, 1), ((0, 1), (0, 1))))
        self.refused("step", 1, BEATS, 1, ((9, 1), ((1, 1), (1, 1))))

    def test_drawn_papers(self):
        draw = chance(180)
        told = {}
        for turn in range(400):
            beats, hands = drawn_beats(draw, 4, draw.randint(0, 2)), draw.randint(1, 3)
            heights = drawn_heights(draw, max(1, greatest(beats)) + draw.choice([0, 0, 1, 4]))
            room = room_for_drop(beats, hands, heights)
            for drop in (room, room + Fraction(1, LONG), room - Fraction(1, LONG), room / 2, -room):
                word = self.as_due(beats, hands, (plain(drop), heights))
                told[word] = told.get(word, 0) + 1
            self.assertEqual("right" if room > 0 else "drop", self.as_due(beats, hands, (plain(room), heights)))
        self.assertGreater(min(told.get(word, 0) for word in ("right", "drop", "fall")), 100, told)

    def test_each_place_of_a_paper(self):
        told = {}
        for beats, hands, right in [(BEATS, 1, PAPER), (NOBODY, 2, ((1, 1), ((1, 1), (3, 1)))),
                                    (BEATS, 3, ((1, 4), ((1, 1), (2, 1), (3, 1), (7, 2))))]:
            self.let_by(beats, hands, right)
            for thing in variants(right):
                word = self.as_due(beats, hands, thing)
                told[word] = told.get(word, 0) + 1
        self.assertGreater(min(told.get(word, 0) for word in ("right", "shape", "drop", "step", "fall")), 5, told)

    def test_several_places_at_once(self):
        draw = chance(181)
        for turn in range(1500):
            thing = ((1, 4), tuple((k + 1, 1) for k in range(draw.randint(2, 4))))
            for again in range(draw.randint(1, 3)):
                thing = mutated(draw, thing)
            self.as_due(BEATS, draw.randint(1, 3), thing)

    def test_the_zoo(self):
        for thing in ZOO + [nest(20, lambda part: (part,)), nest(20, lambda part: [part])]:
            for whole in (thing, (thing, thing), (thing, PAPER[1]), ((1, 4), thing), ((1, 4), (thing,)),
                          ((1, 4), PAPER[1] + (thing,)), (PAPER, thing), (thing,)):
                self.as_due(BEATS, 1, whole)
                self.as_due(NOBODY, 1, whole)

    def test_figures_by_the_hundreds(self):
        heights = tuple((HUNDREDS + k * HUNDREDS + k, HUNDREDS - 1) for k in range(8))
        heights = tuple(plain(Fraction(*each)) for each in heights)
        room = room_for_drop(BEATS, 1, heights)
        self.assertLess(0, room)
        self.let_by(BEATS, 1, (plain(room), heights))
        for beats in (BEATS, NOBODY):
            for drop in ((LONG, HUNDREDS), (1, LONG), (HUNDREDS - 1, HUNDREDS)):
                for part in ((LONG, 3), (3, LONG), (LONG, HUNDREDS), (-LONG, HUNDREDS)):
                    for k in range(8):
                        for hands in (1, 2, 3):
                            self.as_due(beats, hands, (drop, heights[:k] + (part,) + heights[k + 1:]))

    def test_many_heights_and_many_comers(self):
        self.let_by(BEATS, 1, ((1, 4), tuple((k + 1, 1) for k in range(1600))))
        self.refused("step", 1599, BEATS, 1, ((1, 4), tuple((min(k, 1598) + 1, 1) for k in range(1600))))
        beats = beats_of((9, 1, 1, 1), (3, 1, 1, 1, 1, 1))
        heights = tuple(plain(Fraction(k * HUNDREDS + k * k, LONG)) for k in range(1, 7))
        room = room_for_drop(beats, 3, heights)
        self.let_by(beats, 3, (plain(room), heights))
        self.refused("fall", -1, beats, 3, (plain(room * 2), heights))


class Height(PlainCase):

    def test_the_empty_one(self):
        for paper in (PAPER, ((1, 9), ((1, 7),)), ((5, 1), ((1, 3), (1, 2)))):
            self.tells((0, 1), height, paper, ())

    def test_one_person(self):
        paper = ((7, 1), ((1, 3), (1, 2), (5, 2)))
        self.tells((1, 3), height, paper, ((0, 1, False),))
        self.tells((1, 2), height, paper, ((1, 2, True),))
        self.tells((5, 2), height, paper, ((0, 3, True),))

    def test_several_persons(self):
        paper = ((7, 1), ((1, 3), (1, 2), (5, 2)))
        self.tells((10, 3), height, paper, ((0, 3, False), (1, 2, True), (0, 1, False)))
        self.tells((1, 1), height, paper, ((0, 1, False),) * 3)
        draw = chance(182)
        for turn in range(200):
            heights = drawn_heights(draw, 8)
            stand = drawn_stand(draw, (draw.randint(1, 3), None, draw.choice(["first", "turns"])))
            wanted = sum((Fraction(*heights[left - 1]) for rank, left, begun in stand), Fraction(0))
            self.tells(plain(wanted), height, ((draw.randint(1, 9), 1), heights), stand)

    def test_long_ones(self):
        paper = ((1, 10 ** 12 - 1), tuple((k * 10 ** 11 + 1, 10 ** 12 - 1 - k) for k in range(8)))
        paper = (paper[0], tuple(plain(Fraction(*each)) for each in paper[1]))
        stand = tuple((0, k, False) for k in range(1, 9))
        self.tells(plain(sum(Fraction(*each) for each in paper[1])), height, paper, stand)


if __name__ == "__main__":
    unittest.main()
