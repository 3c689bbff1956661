"""Promises 4, 5 and 45: STANDS reached, and closed sets of them."""

import itertools
import unittest

from hatchwaits.errors import TooMany
from hatchwaits.reach import closed_sets, reached
from tests.helpers import RULES, PlainCase, chance
from tests.simulation import drawn_beats, drawn_house, drawn_stand, led, stuck_beats

CALM = (((), 1),)


def walked_reach(house, beats, stand):
    """All stands reached, or None where they are more than 16."""
    told = {stand}
    while len(told) <= 16:
        more = told | {led(house, each, beat) for each in told for beat, lot in beats}
        if more == told:
            return sorted(told)
        told = more
    return None


def is_closed(house, beats, stands):
    return all(led(house, stand, beat) in stands for stand in stands for beat, lot in beats)


def walked_sets(house, beats, stands):
    """The closed sets within which no lesser one lies, of all sets that there are."""
    closed = []
    for many in range(1, len(stands) + 1):
        for some in map(set, itertools.combinations(stands, many)):
            if not any(lesser <= some for lesser in closed) and is_closed(house, beats, some):
                closed.append(some)
    return sorted(sorted(some) for some in closed)


def drawn_cases(seed, turns):
    """Houses of few stands, some of them such that somebody may wait in them for ever."""
    draw = chance(seed)
    for turn in range(turns):
        for rule in RULES:
            house = drawn_house(draw, rule)
            yield house, drawn_beats(draw, 3, least=draw.randint(0, 2)), drawn_stand(draw, house, 2)
            house = (draw.randint(1, 2), draw.randint(0, 3), rule)
            yield house, drawn_beats(draw, 3, 2, draw.randint(1, 2), draw.randint(0, 2)), drawn_stand(draw, house, 2)
            house = (1, 2, draw.choice(["last", "lastoff"]))
            yield house, drawn_beats(draw, 4, 2, draw.randint(1, 2), 2), drawn_stand(draw, house, 2)


class Reached(PlainCase):

    def refused(self, *given):
        for function in (reached, closed_sets):
            self.refuses(TooMany, {"word": "stands"}, function, *given)

    def test_plain_ones(self):
        for rule in RULES:
            self.tells([()], reached, (1, None, rule), CALM, ())
            self.tells([()], reached, (1, 0, rule), (((), 1), (((0, 3), (1, 2)), 4)), ())
            self.tells([()], reached, (2, None, rule), (((), 1), (((0, 1), (1, 1)), 4)), ())
            self.tells([(), ((0, 1, False),)], reached, (1, None, rule), CALM, ((0, 1, False),))
        self.tells([(), ((0, 1, True),), ((0, 2, True),)], reached, (1, 1, "last"), (((), 1), (((0, 3),), 1)), ())
        self.tells([(), ((0, 1, False),), ((0, 2, False),)], reached, (1, 1, "turns"), (((), 1), (((0, 3),), 1)), ())
        self.tells([(), ((0, 1, True),), ((0, 2, True),), ((0, 3, False),)],
                   reached, (1, None, "first"), CALM, ((0, 3, False),))

    def test_just_sixteen(self):
        for rule in RULES:
            for places in (None, 4):
                house = (1, places, rule)
                begin = ((0, 6, False), (1, 5, False), (1, 4, False))
                self.assertEqual(16, len(self.ask(reached, house, CALM, begin)))
                self.assertEqual([[()]], self.ask(closed_sets, house, CALM, begin))
                for more in (begin + ((0, 1, False),), begin + ((0, 6, False),), begin[:2] + ((1, 6, False),)):
                    self.refused(house, CALM, more)

    def test_without_end(self):
        for rule in RULES:
            self.refused((1, None, rule), (((), 5), (((0, 2),), 1)), ())
            self.refused((3, None, rule), ((((0, 3), (0, 3)), 1),), ())
            self.refused((1, 6, rule), (((), 5), (((0, 2), (1, 3)), 1), (((1, 1),), 1)), ())

    def test_many(self):
        told = {True: 0, False: 0}
        for house, beats, stand in drawn_cases(80, 40):
            wanted = walked_reach(house, beats, stand)
            told[wanted is None] += 1
            if wanted is None:
                self.refused(house, beats, stand)
            else:
                self.tells(wanted, reached, house, beats, stand)
        self.assertGreater(min(told.values()), 50)


class ClosedSets(PlainCase):

    def test_one_stand_that_leads_to_itself_alone(self):
        for rule in RULES:
            self.tells([[()]], closed_sets, (1, None, rule), CALM, ())
            self.tells([[()]], closed_sets, (1, None, rule), CALM, ((0, 2, False), (1, 1, False)))
            self.tells([[()]], closed_sets, (1, 0, rule), (((), 1), (((0, 3), (1, 2)), 4)), ())
        waiting = ((0, 3, False),)
        for rule in ("last", "lastoff"):
            self.tells([[waiting]], closed_sets, (1, None, rule), ((((0, 1),), 1), (((1, 1),), 2)), waiting)

    def test_all_that_is_reached(self):
        beats = (((), 1), (((0, 3),), 1))
        for rule in ("first", "last", "short", "front"):
            wanted = [(), ((0, 1, True),), ((0, 2, True),)]
            self.tells([wanted], closed_sets, (1, 1, rule), beats, ())
            self.tells([wanted], closed_sets, (1, 1, rule), beats, ((0, 6, False),))

    def test_several(self):
        for rule in ("last", "lastoff"):
            self.tells([[((0, 1, False),)], [((1, 1, False),)]], closed_sets, (1, 2, rule), stuck_beats(), ())
            self.tells([[((1, 1, False),)]], closed_sets, (1, 2, rule), stuck_beats(), ((1, 1, False),))
        begun = ((0, 1, True), (1, 1, True))
        wanted = [[((rank, 2, False),)] + [((rank, 2, False), each) for each in begun] for rank in (0, 1)]
        self.tells(wanted, closed_sets, (1, 2, "last"), stuck_beats((2,)), ())

    def test_many(self):
        several = long = within = 0
        for house, beats, stand in drawn_cases(81, 40):
            stands = walked_reach(house, beats, stand)
            if stands is not None and len(stands) <= 10:
                wanted = walked_sets(house, beats, stands)
                self.tells(wanted, closed_sets, house, beats, stand)
                several += len(wanted) > 1
                long += len(wanted[0]) > 1
                within += len(stands) > sum(map(len, wanted))
        self.assertGreater(min(several, long, within), 15, (several, long, within))

    def test_lists_of_the_askers_own(self):
        given = ((1, 2, "last"), stuck_beats((1, 2)), ())
        told = closed_sets(*given)
        wanted = repr(told)
        for some in told:
            some.clear()
        self.assertEqual(wanted, repr(closed_sets(*given)))
        stands = reached(*given)
        wanted = repr(stands)
        stands.clear()
        self.assertEqual(wanted, repr(reached(*given)))


if __name__ == "__main__":
    unittest.main()
