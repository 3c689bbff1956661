"""Promises 5, 6, 25, 26 and 27: runs, courses and draining."""

import itertools
import unittest

from hatchwaits.changes import longer
from hatchwaits.comings import many_in
from hatchwaits.houses import is_stand, work_left
from hatchwaits.runs import courses, drained, run
from tests.helpers import RULES, PlainCase, chance
from tests.simulation import (LONGEST, drawn_house, drawn_stand, drawn_way, houses_and_ways, simulated_courses,
                              simulated_run, ways)


class Runs(PlainCase):

    def test_the_void_way(self):
        for rule in RULES:
            for stand in ((), ((0, 3, False),), ((1, 2, False), (0, 6, False))):
                self.tells(((stand,), (), ()), run, (1, None, rule), (), stand)

    def test_a_plain_run(self):
        way = (((0, 2), (1, 1)), ((0, 1),), (), ())
        stands = ((), ((0, 1, True), (1, 1, False)), ((1, 1, False),), (), ())
        self.tells((stands, (0, 1, 0, 0), (0, 1, 1, 0)), run, (1, 2, "first"), way, ())

    def test_two_hands(self):
        way = (((0, 2), (1, 1), (0, 3)), (), ())
        stands = ((), ((0, 1, True), (0, 3, False)), ((0, 2, True),), ((0, 1, True),))
        self.tells((stands, (0, 0, 0), (1, 1, 0)), run, (2, None, "first"), way, ())

    def test_a_beginning_that_is_not_the_empty_house(self):
        stand = ((1, 2, False), (0, 2, True))
        stands = (stand, ((1, 2, False), (0, 1, True)), ((1, 2, False),), ((1, 1, True),))
        self.tells((stands, (2, 0, 0), (0, 1, 0)), run, (1, 2, "first"), (((0, 1), (0, 1)), (), ()), stand)

    def test_0_places(self):
        for rule in RULES:
            self.tells((((), (), ()), (2, 1), (0, 0)), run, (3, 0, rule), (((0, 1), (1, 4)), ((0, 2),)), ())

    def test_many(self):
        draw = chance(25)
        for turn in range(40):
            for rule in RULES:
                house = drawn_house(draw, rule)
                stand, way = drawn_stand(draw, house), drawn_way(draw)
                self.tells(simulated_run(house, way, stand), run, house, way, stand)

    def test_the_longest(self):
        for rule in RULES:
            for hands, places in itertools.product((1, 2, 3), (None, 0, 1, 6)):
                house = (hands, places, rule)
                self.tells(simulated_run(house, LONGEST, ()), run, house, LONGEST, ())
                self.tells(simulated_courses(house, LONGEST), courses, house, LONGEST)


class Courses(PlainCase):

    def test_the_void_way(self):
        for rule in RULES:
            for way in ((), ((),), ((), ())):
                self.tells([], courses, (1, None, rule), way)

    def test_lost_gone_and_in(self):
        way = (((0, 2), (1, 1), (0, 3)), ((0, 4),), ())
        self.tells([("gone", 0, 2, 0), ("gone", 0, 3, 2), ("lost", 0), ("lost", 1)], courses, (1, 2, "first"), way)
        self.tells([("gone", 0, 3, 1), ("gone", 0, 1, 0), ("lost", 0), ("in", 1, 2)], courses, (1, 2, "shortoff"), way)
        self.tells([("in", 0, 3), ("gone", 0, 1, 0), ("lost", 0), ("in", 1, 0)], courses, (1, 2, "last"), way)

    def test_no_beat_behind(self):
        self.tells([("in", 0, 0), ("in", 0, 1)], courses, (1, None, "first"), (((0, 2), (0, 2)),))
        self.tells([("gone", 0, 1, 0), ("in", 0, 1)], courses, (1, None, "first"), (((0, 1), (0, 2)),))

    def test_turns(self):
        way = (((0, 2), (0, 2), (0, 1)), (), (), (), ())
        self.tells([("gone", 0, 4, 2), ("gone", 0, 5, 3), ("gone", 0, 3, 2)], courses, (1, None, "turns"), way)
        self.tells([("gone", 0, 2, 0), ("gone", 0, 3, 1), ("gone", 0, 2, 1)], courses, (2, None, "turns"), way)

    def test_many(self):
        for house, way in houses_and_ways(26, 60):
            self.tells(simulated_courses(house, way), courses, house, way)

    def test_each_comer_is_lost_gone_or_in_once(self):
        for house, way in houses_and_ways(27, 30):
            told = courses(house, way)
            stands, lost, gone = run(house, way, ())
            self.assertEqual(many_in(way), len(told))
            self.assertEqual([at for at, beat in enumerate(way) for comer in beat], [course[1] for course in told])
            for at in range(len(way)):
                self.assertEqual(lost[at], len([course for course in told if course == ("lost", at)]))
                ended = [course for course in told if course[0] == "gone" and course[2] == at + 1]
                self.assertEqual(gone[at], len(ended))
            self.assertEqual(len(stands[-1]), len([course for course in told if course[0] == "in"]))
            self.assertEqual(many_in(way), sum(lost) + sum(gone) + len(stands[-1]))


class Drained(PlainCase):

    def test_plain_ones(self):
        for rule in RULES:
            self.tells((), drained, (1, None, rule), ())
            self.tells(((), ()), drained, (1, None, rule), ((), ()))
            self.tells((((0, 1),),), drained, (1, None, rule), (((0, 1),),))
            self.tells((((0, 2),), ()), drained, (1, None, rule), (((0, 2),),))
            self.tells((((0, 2), (1, 3)), (), (), (), ()), drained, (1, None, rule), (((0, 2), (1, 3)),))
            self.tells((((0, 2), (1, 3)), (), ()), drained, (2, None, rule), (((0, 2), (1, 3)),))
            self.tells((((0, 2), (1, 3)), ()), drained, (1, 1, rule), (((0, 2), (1, 3)),))
            self.tells((((0, 6), (1, 6)),), drained, (1, 0, rule), (((0, 6), (1, 6)),))

    def test_a_way_that_is_drained_already(self):
        for way in [(((0, 2),), ()), (((0, 2),), (), ()), ((), ((1, 1),)), ((), (), ())]:
            for rule in RULES:
                self.tells(way, drained, (1, None, rule), way)

    def test_many(self):
        for house, way in houses_and_ways(28, 40):
            told = self.ask(drained, house, way)
            self.assertEqual(way, told[:len(way)])
            self.assertEqual({()}, set(told[len(way):]) | {()})
            counts = [len(stand) for stand in simulated_run(house, told, ())[0]]
            self.assertEqual(0, counts[-1])
            self.assertNotIn(0, counts[len(way):-1])
            self.assertLessEqual({course[0] for course in courses(house, told)}, {"lost", "gone"})
            self.same(drained(house, told), told)

    def test_a_work_made_longer_many_times_over(self):
        way = (((0, 3), (1, 1)), ((0, 2),))
        for turn in range(200):
            way = longer(way, 0, 6)[0]
        for rule in ("first", "last", "front"):
            told = self.ask(drained, (1, None, rule), way)
            self.assertEqual(1206, len(told))
        told = drained((1, None, "turns"), way)
        self.assertEqual(1206, len(told))
        self.tells([("gone", 0, 1203, 0), ("gone", 0, 1204, 1203), ("gone", 1, 1206, 1203)],
                   courses, (1, None, "first"), drained((1, None, "first"), way))
        self.tells([("gone", 0, 1206, 3), ("gone", 0, 1, 0), ("gone", 1, 3, 0)],
                   courses, (1, None, "shortoff"), drained((1, None, "shortoff"), way))


class OfWholeRuns(PlainCase):

    def test_stands_of_runs_are_stands(self):
        for house, way in houses_and_ways(29, 20):
            for stand in run(house, way, ())[0]:
                self.assertIs(True, is_stand(house, stand))

    def test_a_run_goes_on_where_one_ends(self):
        for house, way in houses_and_ways(30, 20):
            stands, lost, gone = run(house, way, ())
            for cut in range(len(way) + 1):
                rest = run(house, way[cut:], stands[cut])
                self.same(rest, (stands[cut:], lost[cut:], gone[cut:]))

    def test_work_is_the_same_under_all_rules(self):
        for way in ways(31, 60):
            wanted = [0]
            for beat in way:
                wanted.append(max(0, wanted[-1] + sum(work for rank, work in beat) - 1))
            for rule in RULES:
                told = [work_left(stand) for stand in run((1, None, rule), way, ())[0]]
                self.assertEqual(wanted, told)

    def test_works_of_1_more_places_and_more_hands(self):
        draw = chance(32)
        for turn in range(120):
            way = drawn_way(draw, work=1)
            hands, places = draw.randint(1, 3), draw.randint(0, 5)
            few = run((hands, places, draw.choice(RULES)), way, ())
            for more_places in (places + 1, places + 2, None):
                more = run((hands, more_places, draw.choice(RULES)), way, ())
                for at in range(len(way) + 1):
                    self.assertGreaterEqual(len(more[0][at]), len(few[0][at]))
                    self.assertLessEqual(sum(more[1][:at]), sum(few[1][:at]))
            more = run((hands + 1, places, draw.choice(RULES)), way, ())
            for at in range(len(way) + 1):
                self.assertLessEqual(len(more[0][at]), len(few[0][at]))
                self.assertLessEqual(sum(more[1][:at]), sum(few[1][:at]))


if __name__ == "__main__":
    unittest.main()
