"""Promises 4, 5, 6 and 43: how long a PERSON of a STAND stays."""

import itertools
import unittest
from fractions import Fraction

from hatchwaits.errors import TooMany
from hatchwaits.stays import stay_row
from tests.helpers import KEEPING, RULES, PlainCase, chance, plain
from tests.simulation import House, drawn_beats, drawn_house, drawn_stand, led, stuck_beats, weighed_ways

CALM = (((), 1),)
NOUGHT, ONE = (0, 1), (1, 1)


def walked_stay(house, beats, stand, place, n):
    """His row by going through all ways, as one who keeps who he is."""
    row, missing = [Fraction(0)] * n, Fraction(0)
    for way, chance_of in weighed_ways(beats, n):
        told = House(house, stand)
        body = told.line[place]
        for beat in way:
            told.come(beat)
            told.work()
        if body.gone_at is None:
            missing += chance_of
        else:
            row[body.gone_at - 1] += chance_of
    return tuple(map(plain, row)), plain(missing)


def followed(house, stand, place, beat):
    """The stand behind a beat and his place in it, None where he is gone."""
    told = House(house, stand)
    body = told.line[place]
    told.come(beat)
    told.work()
    return (told.stand(), told.line.index(body)) if body in told.line else None


def pairs_at(house, beats, stand, place, n):
    """The unlike pairs of a stand and his place at the moments 1 to n; an end is made where they are many."""
    told = [{(stand, place)}]
    while len(told) <= n and len(told[-1]) <= 400:
        told.append({followed(house, each, at, beat) for each, at in told[-1] for beat, lot in beats} - {None})
    return told[1:]


def drawn_cases(seed, turns, beats, most=4):
    draw = chance(seed)
    for turn in range(turns):
        for rule in RULES:
            house = drawn_house(draw, rule)
            stand = drawn_stand(draw, house, most)
            drawn = drawn_beats(draw, beats)
            for place in range(len(stand)):
                yield house, drawn, stand, place


class Stays(PlainCase):

    def test_n_0(self):
        for house, beats, stand, place in drawn_cases(60, 5, 6, 8):
            self.tells(((), ONE), stay_row, house, beats, stand, place, 0)

    def test_plain_ones(self):
        beats = (((), 1), (((0, 1),), 3))
        self.tells(((NOUGHT, ONE), NOUGHT), stay_row, (1, None, "first"), beats, ((0, 2, True),), 0, 2)
        stand = ((0, 2, False),)
        self.tells(((NOUGHT, (1, 4), (3, 16)), (9, 16)), stay_row, (1, None, "shortoff"), beats, stand, 0, 3)
        self.tells(((NOUGHT, (1, 4), (3, 4)), NOUGHT), stay_row, (1, None, "turns"), beats, stand, 0, 3)
        self.tells(((NOUGHT, NOUGHT), ONE), stay_row, (1, 2, "last"), stuck_beats(), ((0, 1, False),), 0, 2)

    def test_each_place_of_a_stand(self):
        stand = ((1, 2, False), (0, 1, False), (1, 1, False))
        wanted = {"first": (2, 3, 4), "last": (4, 2, 1), "short": (4, 1, 2), "front": (3, 1, 4), "lastoff": (4, 2, 1),
                  "shortoff": (4, 1, 2), "frontoff": (3, 1, 4), "turns": (4, 2, 3)}
        for rule, moments in wanted.items():
            for place, moment in enumerate(moments):
                row = tuple(ONE if k + 1 == moment else NOUGHT for k in range(5))
                self.tells((row, NOUGHT), stay_row, (1, None, rule), CALM, stand, place, 5)
                self.tells((row[:2], NOUGHT if moment < 3 else ONE), stay_row, (1, 3, rule), CALM, stand, place, 2)

    def test_begun_ones(self):
        stand = ((0, 1, False), (1, 2, True), (0, 3, True))
        for rule in KEEPING:
            for place, moment in enumerate((3, 2, 3)):
                row = tuple(ONE if k + 1 == moment else NOUGHT for k in range(4))
                self.tells((row, NOUGHT), stay_row, (2, None, rule), CALM, stand, place, 4)

    def test_all_ways(self):
        for n, turns, beats in ((1, 6, 6), (2, 4, 5), (3, 4, 3)):
            for house, drawn, stand, place in drawn_cases(60 + n, turns, beats):
                self.tells(walked_stay(house, drawn, stand, place, n), stay_row, house, drawn, stand, place, n)

    def test_eight_beats(self):
        beats = (((), 3), (((0, 2),), 2))
        for rule in RULES:
            for house in ((1, 4, rule), (2, None, rule)):
                stand = ((1, 3, False), (0, 2, False), (1, 2, False))
                for place in range(3):
                    self.tells(walked_stay(house, beats, stand, place, 8), stay_row, house, beats, stand, place, 8)

    def test_the_row_and_missing_sum_to_one(self):
        several = 0
        for house, beats, stand, place in drawn_cases(64, 20, 2, 8):
            row, missing = stay_row(house, beats, stand, place, 5)
            self.assertEqual(5, len(row))
            self.assertEqual(1, sum(Fraction(*share) for share in row + (missing,)))
            several += sum(share != NOUGHT for share in row) > 1
        self.assertGreater(several, 10)

    def test_those_who_come_behind_him_do_not_turn_it_under_first(self):
        for house, beats, stand, place in drawn_cases(65, 8, 3):
            house = (house[0], house[1], "first")
            self.same(stay_row(house, beats, stand, place, 3), stay_row(house, CALM, stand, place, 3))


class TooManyStands(PlainCase):

    def refused(self, *given):
        self.refuses(TooMany, {"word": "stands"}, stay_row, *given)

    def test_just_two_hundred(self):
        for case, many in (
                (((2, 5, "turns"), (((), 2), (((0, 3),), 10), (((1, 2), (1, 3)), 8)), ((1, 5, False),), 0), 200),
                (((3, None, "first"), (((), 9), (((0, 2), (0, 1)), 7), (((0, 3), (1, 1)), 3), (((1, 1),), 2)),
                  ((1, 6, False), (1, 6, False)), 1), 200),
                (((1, 5, "lastoff"), (((), 5), (((0, 3), (1, 3)), 9), (((1, 3),), 9)), ((0, 2, False),), 0), 200),
                (((2, None, "first"), (((), 10), (((0, 1),), 12), (((0, 2),), 7), (((0, 3),), 6)),
                  ((1, 2, True), (1, 6, True)), 1), 201),
                (((3, None, "turns"), ((((0, 1),), 5), (((0, 3),), 5), (((1, 1),), 1)),
                  ((1, 5, False), (1, 6, False), (1, 4, False), (0, 1, False)), 0), 201),
                (((2, 4, "last"), (((), 3), (((0, 1),), 8), (((0, 3), (0, 1)), 5), (((0, 3), (0, 3)), 9), (((1, 2),), 4)),
                  ((1, 6, False),), 0), 201)):
            counts = [len(pairs) for pairs in pairs_at(*case, 8)]
            self.assertEqual(many, max(counts))
            first = counts.index(many) + 1
            for n in range(9):
                if many > 200 and n >= first:
                    self.refused(*case, n)
                else:
                    self.assertEqual(n, len(stay_row(*case, n)[0]))

    def test_surely_gone_early(self):
        beats = tuple((beat, 1) for beat in [(), ((0, 1), (1, 3)), ((0, 3), (1, 2)), ((1, 1),), ((1, 2), (0, 3)), ((1, 3),)])
        for rule, place in (("first", 0), ("front", 0), ("frontoff", 0), ("turns", 0)):
            house, stand = (1, None, rule), ((0, 1, False), (1, 6, False))
            self.tells(((ONE,) + (NOUGHT,) * 7, NOUGHT), stay_row, house, beats, stand, place, 8)
        for rule in KEEPING:
            stand = ((1, 6, False), (0, 3, True))
            self.tells(((NOUGHT, NOUGHT, ONE) + (NOUGHT,) * 5, NOUGHT), stay_row, (1, None, rule), beats, stand, 1, 8)
            self.refused((1, None, rule), beats, stand, 0, 8)

    def test_many(self):
        told, by_stands = {True: 0, False: 0}, 0
        for house, beats, stand, place in itertools.islice(drawn_cases(67, 200, 6), 300):
            at = pairs_at(house, beats, stand, place, 5)
            too_many = max(map(len, at), default=0) > 200
            told[too_many] += 1
            if too_many:
                self.refused(house, beats, stand, place, 5)
                continue
            self.assertEqual(5, len(stay_row(house, beats, stand, place, 5)[0]))
            stands = {stand}
            for turn in range(5):
                stands = {led(house, each, beat) for each in stands for beat, lot in beats}
                by_stands += len(stands) > 200
        self.assertGreater(min(told.values()), 20)
        # Some are told though there are more stands, he being gone from many of them.
        self.assertGreater(by_stands, 5)

    def test_pairs_are_counted_and_not_stands(self):
        # Many are alike in these lines: he may have several places in one stand.
        for case, n in (
                (((3, 6, "turns"), (((), 1), (((0, 2),), 1), (((0, 3), (0, 3)), 1)), ((0, 6, False),) * 2, 1), 7),
                (((2, 6, "turns"), ((((0, 1),), 1), (((0, 1), (0, 1)), 1), (((0, 2),), 1), (((0, 2), (0, 2)), 1)),
                  ((0, 6, False),), 0), 6),
                (((1, None, "short"), (((), 1), (((0, 2),), 1), (((0, 3), (0, 1)), 1)), ((0, 3, False),) * 4, 3), 7)):
            pairs = pairs_at(*case, n)
            self.assertGreater(len(pairs[-1]), 200)
            self.assertLessEqual(max(map(len, pairs[:-1])), 200)
            self.assertLessEqual(max(len({stand for stand, place in each}) for each in pairs), 200)
            self.refused(*case, n)
            self.assertEqual(n - 1, len(stay_row(*case, n - 1)[0]))


if __name__ == "__main__":
    unittest.main()
