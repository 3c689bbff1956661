"""Promises 3, 4, 5, 6, 40, 41 and 42: ROWS of chances."""

import itertools
import unittest
from fractions import Fraction

from hatchwaits.errors import TooMany
from hatchwaits.houses import is_stand
from hatchwaits.rows import (
    come_mean, count_row, gone_mean, let_mean, lost_mean, picked_mean, row_at, work_mean, work_row)
from tests.helpers import RULES, PlainCase, chance, plain, right_fraction
from tests.simulation import (
    House, drawn_beats, drawn_house, drawn_row, even_row, led, simulated_run, weighed_beats, weighed_ways)

EMPTY = (((), (1, 1)),)
CALM = (((), 1),)


def drawn_cases(seed, turns, beats=4):
    draw = chance(seed)
    for turn in range(turns):
        for rule in RULES:
            house = drawn_house(draw, rule)
            yield house, drawn_beats(draw, beats), drawn_row(draw, house)


def walked_row(house, beats, row, t):
    """The ROW by going through all ways."""
    told = {}
    for stand, share in row:
        for way, chance_of in weighed_ways(beats, t):
            last = simulated_run(house, way, stand)[0][-1]
            told[last] = told.get(last, 0) + Fraction(*share) * chance_of
    return tuple((stand, plain(told[stand])) for stand in sorted(told))


def stands_at(house, beats, stands, t):
    """The unlike stands at the moments 1 to t."""
    told = [set(stands)]
    for moment in range(t):
        told.append({led(house, stand, beat) for stand in told[-1] for beat, lot in beats})
    return told[1:]


def pairs_of(lefts, many):
    """So many stands of two, nobody begun."""
    persons = [(rank, left, False) for rank in (0, 1) for left in lefts]
    return list(itertools.product(persons, repeat=2))[:many]


class RowAt(PlainCase):

    def test_0_beats_on(self):
        for house, beats, row in drawn_cases(40, 6):
            self.tells(row, row_at, house, beats, row, 0)

    def test_a_plain_one(self):
        beats = (((), 2), (((0, 1),), 1), (((0, 2),), 3))
        self.tells((((), (1, 2)), (((0, 1, True),), (1, 2))), row_at, (1, 1, "first"), beats, EMPTY, 1)
        self.tells((((), (3, 4)), (((0, 1, True),), (1, 4))), row_at, (1, 1, "first"), beats, EMPTY, 2)
        self.tells((((), (1, 2)), (((0, 1, False),), (1, 2))), row_at, (2, None, "turns"), beats, EMPTY, 1)

    def test_beats_that_lead_to_one_stand(self):
        beats = (((), 1), (((0, 1),), 4), (((0, 1), (1, 3)), 5), (((1, 1),), 2))
        full = ((((0, 6, True), (1, 1, False)), (1, 1)),)
        self.tells(((((0, 5, True), (1, 1, False)), (1, 1)),), row_at, (1, 2, "first"), beats, full, 1)
        self.tells(((((1, 1, False),), (1, 1)),), row_at, (1, 2, "first"), beats, full, 6)
        both = ((((0, 1, False),), (1, 3)), (((0, 1, True),), (2, 3)))
        self.tells(EMPTY, row_at, (1, None, "first"), CALM, both, 1)

    def test_0_places(self):
        for rule in RULES:
            for t in range(9):
                self.tells(EMPTY, row_at, (2, 0, rule), (((), 1), (((0, 1), (1, 3)), 5)), EMPTY, t)

    def test_all_ways(self):
        for t, turns in ((1, 20), (2, 10), (3, 3)):
            for house, beats, row in drawn_cases(41 + t, turns):
                self.tells(walked_row(house, beats, row, t), row_at, house, beats, row, t)

    def test_no_bound(self):
        draw = chance(45)
        for rule in RULES:
            house, beats = (draw.randint(1, 3), None, rule), drawn_beats(draw, 3)
            self.tells(walked_row(house, beats, EMPTY, 4), row_at, house, beats, EMPTY, 4)

    def test_eight_beats_on(self):
        for rule in RULES:
            for house in ((1, 3, rule), (2, None, rule)):
                beats = (((), 3), (((0, 2),), 2))
                self.tells(walked_row(house, beats, EMPTY, 8), row_at, house, beats, EMPTY, 8)

    def test_t_and_then_u(self):
        for house, beats, row in drawn_cases(46, 3, beats=2):
            for t, u in ((0, 3), (1, 1), (2, 1), (1, 3), (3, 2)):
                self.tells(row_at(house, beats, row, t + u), row_at, house, beats, row_at(house, beats, row, t), u)

    def test_what_a_row_is(self):
        several = 0
        for house, beats, row in drawn_cases(47, 10):
            told = row_at(house, beats, row, 2)
            stands = [stand for stand, share in told]
            self.assertEqual(sorted(set(stands)), stands)
            for stand, share in told:
                self.assertIs(True, is_stand(house, stand))
                self.assertIs(True, right_fraction(share))
                self.assertGreater(share[0], 0)
            self.assertEqual(1, sum(Fraction(*share) for stand, share in told))
            several += len(told) > 1
        self.assertGreater(several, 20)

    def test_long_lots_and_shares(self):
        long = 10 ** 199 + 7
        row = (((), (1, long)), (((0, 1, False),), (long - 1, long)))
        beats = (((), 1), (((0, 1),), long))
        self.tells(walked_row((1, None, "turns"), beats, row, 2), row_at, (1, None, "turns"), beats, row, 2)


class TooManyStands(PlainCase):

    def refused(self, house, beats, row, t):
        self.refuses(TooMany, {"word": "stands"}, row_at, house, beats, row, t)

    def test_just_two_hundred(self):
        beats = (((), 1), (((0, 3),), 2))
        full = [((0, 2, False), (1, left, False), (0, 6, False)) for left in (2, 3)]
        for rule in RULES:
            house, stands = (1, 3, rule), pairs_of(range(2, 7), 100)
            self.assertEqual(200, len(row_at(house, beats, even_row(stands), 1)))
            self.assertEqual(200, len(row_at(house, beats, even_row(stands[1:] + full), 1)))
            self.refused(house, beats, even_row(stands + full[:1]), 1)
            self.refused(house, beats, even_row(stands + full), 1)

    def test_fewer_again_at_the_last_moment(self):
        beats = (((), 1), (((0, 2),), 1), (((1, 2),), 1))
        for rule in RULES:
            house = (3, None, rule)
            row = even_row(pairs_of(range(1, 7), 144))
            counts = [len(stands) for stands in stands_at(house, beats, [stand for stand, share in row], 6)]
            self.assertGreater(max(counts), 200)
            self.assertLessEqual(counts[-1], 200)
            for t in range(1, 7):
                self.refused(house, beats, row, t)
            self.tells(row, row_at, house, beats, row, 0)

    def test_never_of_the_handed_row(self):
        threes = list(itertools.product([(rank, left, False) for rank in (0, 1) for left in (1, 2)], repeat=3))
        for rule in RULES:
            for many in (56, 57, 64):
                stands = pairs_of(range(1, 7), 144) + threes[:many]
                row = even_row(stands)
                self.tells(row, row_at, (3, None, rule), CALM, row, 0)
                reached = stands_at((3, None, rule), CALM, stands, 1)[0]
                self.assertLess(len(reached), 200)
                self.assertEqual(sorted(reached), [stand for stand, share in row_at((3, None, rule), CALM, row, 1)])

    def test_many(self):
        told = {True: 0, False: 0}
        draw = chance(48)
        for turn in range(20):
            for rule in RULES:
                house, beats = drawn_house(draw, rule), drawn_beats(draw)
                row = drawn_row(draw, house)
                reached = stands_at(house, beats, [stand for stand, share in row], 4)
                too_many = max(map(len, reached)) > 200
                told[too_many] += 1
                if too_many:
                    self.refused(house, beats, row, 4)
                else:
                    self.assertEqual(sorted(reached[-1]), [stand for stand, share in row_at(house, beats, row, 4)])
        self.assertGreater(min(told.values()), 10)


class CountsAndWorks(PlainCase):

    def test_the_empty_house_alone(self):
        self.tells([(1, 1)], count_row, EMPTY)
        self.tells([(1, 1)], work_row, EMPTY)

    def test_noughts_among_them(self):
        row = ((((0, 2, False), (0, 2, False)), (1, 2)), (((0, 2, True), (1, 2, False)), (1, 3)), (((0, 7, True),), (1, 6)))
        self.tells([(0, 1), (1, 6), (5, 6)], count_row, row)
        self.tells([(0, 1)] * 4 + [(5, 6), (0, 1), (0, 1), (1, 6)], work_row, row)
        row = (((), (1, 4)), (((0, 1, False),) * 3, (3, 4)))
        self.tells([(1, 4), (0, 1), (0, 1), (3, 4)], count_row, row)
        self.tells([(1, 4), (0, 1), (0, 1), (3, 4)], work_row, row)

    def test_many(self):
        for house, beats, row in itertools.chain(drawn_cases(49, 12), drawn_cases(50, 12)):
            counts, works = {}, {}
            for stand, share in row:
                left = sum(person[1] for person in stand)
                counts[len(stand)] = counts.get(len(stand), 0) + Fraction(*share)
                works[left] = works.get(left, 0) + Fraction(*share)
            for function, wanted in ((count_row, counts), (work_row, works)):
                self.tells([plain(Fraction(wanted.get(k, 0))) for k in range(max(wanted) + 1)], function, row)
                self.assertGreater(function(row)[-1][0], 0)
                self.assertEqual(1, sum(Fraction(*share) for share in function(row)))


def walked_means(house, beats, row):
    """(lost, let in, picked, gone, work let in), in the mean, by persons who keep who they are."""
    sums = [Fraction(0)] * 5
    for stand, share in row:
        for beat, chance_of in weighed_beats(beats):
            told = House(house, stand)
            lost = told.come(beat)
            entered = [body.left for body in told.bodies if not body.lost]
            picked = len(told.places_picked())
            parts = (lost, len(entered), picked, len(told.work()), sum(entered))
            sums = [whole + Fraction(*share) * chance_of * part for whole, part in zip(sums, parts)]
    return [plain(each) for each in sums]


MEANS = (lost_mean, let_mean, picked_mean, gone_mean, work_mean)


class Means(PlainCase):

    def test_a_plain_one(self):
        house, beats = (1, 2, "first"), (((), 1), (((0, 1), (0, 3)), 3))
        row = (((), (1, 2)), (((0, 1, True), (0, 1, False)), (1, 3)), (((1, 2, True),), (1, 6)))
        self.tells((3, 2), come_mean, beats)
        self.tells((5, 8), lost_mean, house, beats, row)
        self.tells((7, 8), let_mean, house, beats, row)
        self.tells((7, 8), picked_mean, house, beats, row)
        self.tells((17, 24), gone_mean, house, beats, row)
        self.tells((13, 8), work_mean, house, beats, row)

    def test_who_comes_is_picked_already(self):
        for rule in RULES:
            beats = ((((0, 2), (1, 2)), 1),)
            self.tells((1, 1), picked_mean, (1, None, rule), beats, EMPTY)
            self.tells((2, 1), picked_mean, (3, None, rule), beats, EMPTY)
            self.tells((0, 1), gone_mean, (3, None, rule), beats, EMPTY)
            self.tells((4, 1), work_mean, (3, None, rule), beats, EMPTY)

    def test_a_full_house(self):
        beats = (((), 1), (((0, 2), (1, 2)), 1))
        for rule in RULES:
            for house, row in (((1, 0, rule), EMPTY), ((2, 2, rule), ((((0, 1, False), (1, 2, False)), (1, 1)),))):
                picked = min(house[0], len(row[0][0]))
                for function, wanted in zip(MEANS, ((1, 1), (0, 1), (picked, 1), (picked // 2, 1), (0, 1))):
                    self.tells(wanted, function, house, beats, row)

    def test_many(self):
        for house, beats, row in drawn_cases(51, 15):
            for function, wanted in zip(MEANS, walked_means(house, beats, row)):
                self.tells(wanted, function, house, beats, row)

    def test_come(self):
        for house, beats, row in drawn_cases(52, 10, beats=6):
            come = sum(chance_of * len(beat) for beat, chance_of in weighed_beats(beats))
            self.tells(plain(come), come_mean, beats)
            together = Fraction(*lost_mean(house, beats, row)) + Fraction(*let_mean(house, beats, row))
            self.assertEqual(come, together)

    def test_each_comer_is_lost_gone_or_in_the_house_in_the_mean(self):
        for house, beats, row in drawn_cases(53, 10):
            ahead, behind = [sum(k * Fraction(*share) for k, share in enumerate(count_row(each)))
                             for each in (row, row_at(house, beats, row, 1))]
            let = Fraction(*let_mean(house, beats, row))
            self.assertEqual(behind, ahead + let - Fraction(*gone_mean(house, beats, row)))
            ahead, behind = [sum(k * Fraction(*share) for k, share in enumerate(work_row(each)))
                             for each in (row, row_at(house, beats, row, 1))]
            work = Fraction(*work_mean(house, beats, row))
            self.assertEqual(behind, ahead + work - Fraction(*picked_mean(house, beats, row)))


if __name__ == "__main__":
    unittest.main()
