"""Promises 6, 28, 29 and 30: stretches, and what adds up in them."""

import unittest

from hatchwaits.houses import work_left
from hatchwaits.runs import courses, drained, run
from hatchwaits.stretches import busy_stretches, sums
from tests.helpers import KEEPING, RULES, PlainCase
from tests.simulation import House, houses_and_ways, ways


def walked_stretches(house, way):
    """The stretches by promise 28, moment by moment."""
    led = House(house, ())
    counts, entered = [0], []
    for beat in way:
        entered.append(len(beat) - led.come(beat))
        led.work()
        counts.append(len(led.line))
    told = []
    for begin in range(len(way)):
        if counts[begin] == 0 and entered[begin] > 0:
            ends = [moment for moment in range(begin + 1, len(way) + 1) if counts[moment] == 0]
            told.append((begin, ends[0] if ends else None))
    return told


def walked_sums(house, way, begin, end):
    """The sums by promise 29, beat by beat and person by person."""
    led = House(house, ())
    present = unpicked = 0
    for at, beat in enumerate(way):
        led.come(beat)
        if begin <= at < end:
            present += len(led.line)
            unpicked += len(led.line) - len(led.places_picked())
        led.work()
    between = [body for body in led.bodies if begin <= body.beat < end and not body.lost]
    stays = sum(body.gone_at - body.beat for body in between)
    return (stays, present, sum(body.waits for body in between), unpicked)


def empty_moments(house, way):
    return [moment for moment, stand in enumerate(run(house, way, ())[0]) if stand == ()]


class Stretches(PlainCase):

    def test_nobody_is_let_in(self):
        for rule in RULES:
            for way in ((), ((),), ((), (), ())):
                self.tells([], busy_stretches, (1, None, rule), way)
            self.tells([], busy_stretches, (2, 0, rule), (((0, 1), (1, 3)), (), ((0, 6),)))

    def test_one_of_one_beat(self):
        for rule in RULES:
            self.tells([(0, 1)], busy_stretches, (1, None, rule), (((0, 1),),))
            self.tells([(0, 1)], busy_stretches, (1, 1, rule), (((0, 1), (0, 6)), ()))
            self.tells([(0, 1)], busy_stretches, (3, None, rule), (((0, 1), (0, 1), (1, 1)), ()))

    def test_one_begins_where_the_last_one_ends(self):
        for rule in RULES:
            self.tells([(0, 1), (1, 2), (2, 3)], busy_stretches, (1, None, rule), (((0, 1),),) * 3)
            self.tells([(1, 3), (3, 4)], busy_stretches, (1, None, rule), ((), ((0, 2),), (), ((1, 1),), (), ()))

    def test_one_goes_on_where_another_comes_in_its_last_beat(self):
        for rule in RULES:
            self.tells([(0, 3)], busy_stretches, (1, None, rule), (((0, 2),), ((0, 1),), ()))
            self.tells([(0, 2), (3, 5)], busy_stretches, (1, 1, rule), (((0, 2),), ((0, 1),), (), ((0, 2),), ((0, 1),)))

    def test_one_without_an_end(self):
        for rule in RULES:
            self.tells([(0, None)], busy_stretches, (1, None, rule), (((0, 2),),))
            self.tells([(0, 1), (2, None)], busy_stretches, (1, None, rule), (((0, 1),), (), ((0, 3),), ((0, 1),)))
            self.tells([(0, 2)], busy_stretches, (1, None, rule), (((0, 2),), ()))

    def test_many(self):
        for house, way in houses_and_ways(40, 60, comers=2, work=3):
            self.tells(walked_stretches(house, way), busy_stretches, house, way)
            way = drained(house, way)
            self.tells(walked_stretches(house, way), busy_stretches, house, way)


class Sums(PlainCase):

    def test_plain_ones(self):
        way = (((0, 2), (1, 1)), (), (), (), ((0, 1),))
        self.tells((5, 5, 2, 2), sums, (1, None, "first"), way, 0, 3)
        self.tells((4, 4, 1, 1), sums, (1, None, "shortoff"), way, 0, 3)
        self.tells((3, 3, 0, 0), sums, (2, None, "first"), way, 0, 2)
        self.tells((2, 2, 0, 0), sums, (1, 1, "first"), way, 0, 2)
        self.tells((6, 6, 2, 2), sums, (1, None, "first"), way, 0, 5)
        self.tells((1, 1, 0, 0), sums, (1, None, "first"), way, 3, 5)
        self.tells((1, 1, 0, 0), sums, (1, None, "first"), way, 4, 5)
        self.tells((0, 0, 0, 0), sums, (1, None, "first"), way, 3, 4)
        self.tells((0, 0, 0, 0), sums, (3, 0, "first"), way, 0, 5)

    def test_two_moments_that_are_one(self):
        for house, way in houses_and_ways(41, 6, comers=1, work=2):
            for moment in empty_moments(house, way):
                self.tells((0, 0, 0, 0), sums, house, way, moment, moment)

    def test_those_who_come_later_are_not_counted(self):
        way = (((0, 2),), (), ((0, 6), (1, 6)))
        for rule in RULES:
            self.tells((2, 2, 0, 0), sums, (1, None, rule), way, 0, 2)

    def test_many(self):
        for house, way in houses_and_ways(42, 25, beats=9, comers=2, work=3):
            for more in (way, drained(house, way)):
                moments = empty_moments(house, more)
                for begin in moments[::2]:
                    for end in moments:
                        if begin <= end:
                            told = sums(house, more, begin, end)
                            self.same(told, walked_sums(house, more, begin, end))
                            self.assertEqual(told[0], told[1])
                            self.assertEqual(told[2], told[3])
                self.tells(walked_sums(house, more, moments[0], moments[-1]), sums, house, more, moments[0], moments[-1])


def counts_by_any_pick(way):
    """For each moment the fewest who may be in the house, one hand, whomever one picks, or none."""
    lines, fewest = {()}, [0]
    for beat in way:
        following = set()
        for line in lines:
            filled = tuple(sorted(line + tuple(work for rank, work in beat)))
            following.add(filled)
            for at, left in enumerate(filled):
                rest = filled[:at] + filled[at + 1:]
                following.add(tuple(sorted(rest + ((left - 1,) if left > 1 else ()))))
        lines = following
        fewest.append(min(map(len, lines)))
    return fewest


def greatest_stay_by_any_pick(way):
    """The least that the greatest stay may be, one hand, whomever one picks, or none."""
    lines = {((), 0)}
    for at, beat in enumerate(way):
        following = set()
        for line, greatest in lines:
            filled = tuple(sorted(line + tuple((at, work) for rank, work in beat)))
            following.add((filled, greatest))
            for place, (came, left) in enumerate(filled):
                rest = filled[:place] + filled[place + 1:]
                if left > 1:
                    following.add((tuple(sorted(rest + ((came, left - 1),))), greatest))
                else:
                    following.add((rest, max(greatest, at + 1 - came)))
        lines = following
    # Who is still in stays for one beat more at least.
    return min(max([greatest] + [len(way) + 1 - came for came, left in line]) for line, greatest in lines)


class OneHandNoBound(PlainCase):

    def test_the_work_and_the_stretches_are_the_same_under_all_rules(self):
        for way in ways(43, 80, comers=2, work=4):
            works = [0]
            for beat in way:
                works.append(max(works[-1] + sum(work for rank, work in beat) - 1, 0))
            wanted = busy_stretches((1, None, "first"), way)
            for rule in RULES:
                house = (1, None, rule)
                self.assertEqual(works, [work_left(stand) for stand in run(house, way, ())[0]])
                self.same(busy_stretches(house, way), wanted)

    def test_work_times_waits_is_the_same_under_the_rules_that_keep(self):
        unlike = 0
        for way in ways(44, 120, comers=3, work=6):
            way = drained((1, None, "first"), way)
            by_works = [work for beat in way for rank, work in beat]
            for begin, end in busy_stretches((1, None, "first"), way):
                if end is not None:
                    told, waits = set(), set()
                    for rule in KEEPING:
                        rows = zip(by_works, courses((1, None, rule), way))
                        inside = [(work, course) for work, course in rows if begin <= course[1] < end]
                        told.add(sum(work * course[3] for work, course in inside))
                        waits.add(sum(course[3] for work, course in inside))
                    self.assertEqual(1, len(told))
                    unlike += len(waits) > 1
        self.assertGreater(unlike, 5)

    def test_under_shortoff_there_are_never_more_than_by_any_pick(self):
        for way in ways(45, 60, beats=6, comers=2, work=4):
            told = [len(stand) for stand in run((1, None, "shortoff"), way, ())[0]]
            self.assertEqual(counts_by_any_pick(way), told)

    def test_under_first_the_greatest_stay_is_the_least(self):
        for way in ways(46, 40, beats=4, comers=2, work=3):
            way = drained((1, None, "first"), way)
            stays = [course[2] - course[1] for course in courses((1, None, "first"), way)]
            self.assertLessEqual(max(stays, default=0), greatest_stay_by_any_pick(way))


if __name__ == "__main__":
    unittest.main()
