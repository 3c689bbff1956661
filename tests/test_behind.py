"""Promises 6, 37, 38 and 39: houses behind one another."""

import unittest

from hatchwaits.behind import gone_way, through
from hatchwaits.changes import longer
from hatchwaits.comings import is_way, many_in
from tests.helpers import RULES, PlainCase, chance
from tests.simulation import LONGEST, drawn_house, houses_and_ways, simulated_courses, ways


def drawn_works(draw, way):
    return tuple(draw.randint(1, 6) for beat in way for comer in beat)


def walked_behind(house, way, works):
    """The way behind a house by promise 37, found moment by moment."""
    spread = [comer for beat in way for comer in beat]
    beats, numbers = [], []
    told = simulated_courses(house, way + ((),) * 400)
    for moment in range(max([course[2] for course in told if course[0] == "gone"], default=-1) + 1):
        gone = [number for number, course in enumerate(told) if course[0] == "gone" and course[2] == moment]
        beats.append(tuple((spread[number][0], works[number]) for number in gone))
        numbers += gone
    return (tuple(beats), tuple(numbers))


class GoneWay(PlainCase):

    def test_nobody_is_gone(self):
        for rule in RULES:
            for way in ((), ((),), ((), (), ())):
                self.tells(((), ()), gone_way, (1, None, rule), way, ())
            self.tells(((), ()), gone_way, (1, 0, rule), (((0, 1), (1, 2)), ((0, 1),)), (1, 2, 3))

    def test_plain_ones(self):
        way = (((0, 2), (1, 1)), ((0, 3),))
        works = (4, 5, 6)
        for house, wanted in [
                ((1, None, "first"), (((), (), ((0, 4),), ((1, 5),), (), (), ((0, 6),)), (0, 1, 2))),
                ((1, None, "shortoff"), (((), ((1, 5),), (), ((0, 4),), (), (), ((0, 6),)), (1, 0, 2))),
                ((2, None, "first"), (((), ((1, 5),), ((0, 4),), (), ((0, 6),)), (1, 0, 2))),
                ((1, 2, "first"), (((), (), ((0, 4),), ((1, 5),)), (0, 1))),
                ((1, 1, "turns"), (((), (), ((0, 4),)), (0,)))]:
            self.tells(wanted, gone_way, house, way, works)

    def test_gone_at_one_moment_in_the_order_of_their_numbers(self):
        way = (((0, 2), (0, 2), (1, 1)),)
        self.tells((((), (), ((0, 3), (1, 5)), ((0, 4),)), (0, 2, 1)), gone_way, (2, None, "turns"), way, (3, 4, 5))
        way = (((0, 1), (0, 1), (1, 1)),)
        self.tells((((), ((0, 3), (0, 4), (1, 5))), (0, 1, 2)), gone_way, (3, None, "last"), way, (3, 4, 5))

    def test_void_beats_behind_make_no_other(self):
        way = (((0, 2), (1, 1)), ((0, 3),))
        for house in [(1, None, "first"), (2, 2, "turns")]:
            wanted = gone_way(house, way, (4, 5, 6))
            for voids in (1, 4, 20):
                self.tells(wanted, gone_way, house, way + ((),) * voids, (4, 5, 6))

    def test_many(self):
        draw = chance(70)
        cases = houses_and_ways(71, 25) + [((2, 6, rule), LONGEST) for rule in RULES]
        for house, way in cases:
            works = drawn_works(draw, way)
            told = self.ask(gone_way, house, way, works)
            self.same(told, walked_behind(house, way, works))
            self.assertIs(True, is_way(told[0]))
            self.assertNotIn((), told[0][-1:])


class Through(PlainCase):

    def test_plain_ones(self):
        way = (((0, 2), (1, 1)),)
        one = (1, None, "first")
        self.tells([(("gone", 0, 2, 0), ("gone", 2, 5, 0)), (("gone", 0, 3, 2), ("gone", 3, 6, 2))],
                   through, (one, one), way, (3, 1))
        self.tells([(("gone", 0, 2, 0), ("gone", 2, 5, 0)), (("gone", 0, 3, 2), ("lost", 3))],
                   through, (one, (1, 1, "first")), way, (3, 1))
        self.tells([(("gone", 0, 2, 0), ("gone", 2, 5, 0)), (("lost", 0), None)],
                   through, ((1, 1, "first"), one), way, (3, 1))
        self.tells([(("gone", 0, 3, 1), ("gone", 3, 6, 0)), (("gone", 0, 1, 0), ("gone", 1, 2, 0))],
                   through, ((1, None, "short"), one), way, (3, 1))
        self.tells([(("gone", 0, 2, 0), ("lost", 2)), (("gone", 0, 3, 2), ("lost", 3))],
                   through, (one, (1, 0, "first")), way, (3, 1))

    def test_nobody(self):
        for rule in RULES:
            house, shut = (1, None, rule), (1, 0, rule)
            self.tells([], through, (house, house), (), ())
            self.tells([], through, (house, house), ((), ()), ())
            self.tells([(("lost", 0), None), (("lost", 1), None)], through, (shut, house), (((0, 1),), ((1, 2),)), (1, 1))

    def test_lost_in_the_first_one_in_its_middle(self):
        way = (((0, 2), (1, 1)), (), ((0, 1),))
        self.tells([(("gone", 0, 2, 0), ("gone", 2, 4, 0)), (("lost", 0), None), (("gone", 2, 3, 0), ("gone", 3, 7, 1))],
                   through, ((2, 1, "first"), (1, None, "first")), way, (2, 6, 3))

    def test_many(self):
        draw = chance(72)
        for first, way in houses_and_ways(73, 25):
            second = drawn_house(draw)
            works = drawn_works(draw, way)
            told = self.ask(through, (first, second), way, works)
            self.same([pair[0] for pair in told], simulated_courses(first, way + ((),) * 400))
            behind, numbers = walked_behind(first, way, works)
            wanted = [None] * many_in(way)
            for number, course in zip(numbers, simulated_courses(second, behind + ((),) * 400)):
                wanted[number] = course
            self.same([pair[1] for pair in told], wanted)
            for course, behind_it in told:
                self.assertEqual(course[0] == "lost", behind_it is None)
                if behind_it is not None:
                    self.assertEqual(course[2], behind_it[1])

    def test_works_made_longer_many_times_over(self):
        way = (((0, 3), (1, 1)),)
        for turn in range(60):
            way = longer(way, 0, 6)[0]
        one = (1, None, "first")
        self.tells([(("gone", 0, 363, 0), ("gone", 363, 365, 0)), (("gone", 0, 364, 363), ("gone", 364, 367, 1))],
                   through, (one, one), way, (2, 2))


class Exchanged(PlainCase):

    def test_the_same_moments(self):
        one = (1, None, "first")
        for way in ways(74, 40):
            for d, e in [(1, 2), (1, 6), (2, 3), (4, 4), (5, 3), (6, 1)]:
                ends = []
                for here, there in ((d, e), (e, d)):
                    alike = tuple(tuple((rank, here) for rank, work in beat) for beat in way)
                    told = through((one, one), alike, (there,) * many_in(way))
                    ends.append([course[2] for ahead, course in told])
                self.assertEqual(ends[0], ends[1])


if __name__ == "__main__":
    unittest.main()
