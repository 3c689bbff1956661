"""Promises 6 and 31 to 36: WAYS changed, and courses compared."""

import unittest

from hatchwaits.changes import front_alone, later, longer, with_comer, without
from hatchwaits.comings import is_way, many_in
from hatchwaits.errors import NoBeat, NoComer
from hatchwaits.runs import courses, drained
from tests.helpers import LONG, RULES, PlainCase, chance
from tests.simulation import drawn_beat, ways

WAY = (((0, 2), (1, 3)), (), ((0, 1),))


class WithComer(PlainCase):

    def test_each_place(self):
        new = (1, 6)
        for beat, place, way, numbers in [
                (0, 0, ((new, (0, 2), (1, 3)), (), ((0, 1),)), (-1, 0, 1, 2)),
                (0, 1, (((0, 2), new, (1, 3)), (), ((0, 1),)), (0, -1, 1, 2)),
                (0, 2, (((0, 2), (1, 3), new), (), ((0, 1),)), (0, 1, -1, 2)),
                (0, 3, (((0, 2), (1, 3), new), (), ((0, 1),)), (0, 1, -1, 2)),
                (0, LONG, (((0, 2), (1, 3), new), (), ((0, 1),)), (0, 1, -1, 2)),
                (1, 0, (((0, 2), (1, 3)), (new,), ((0, 1),)), (0, 1, -1, 2)),
                (1, 5, (((0, 2), (1, 3)), (new,), ((0, 1),)), (0, 1, -1, 2)),
                (2, 0, (((0, 2), (1, 3)), (), (new, (0, 1))), (0, 1, -1, 2)),
                (2, 1, (((0, 2), (1, 3)), (), ((0, 1), new)), (0, 1, 2, -1)),
                (2, 2, (((0, 2), (1, 3)), (), ((0, 1), new)), (0, 1, 2, -1))]:
            self.tells((way, numbers), with_comer, WAY, beat, place, new)

    def test_one_like_another(self):
        self.tells(((((0, 1), (0, 1)),), (-1, 0)), with_comer, (((0, 1),),), 0, 0, (0, 1))
        self.tells(((((0, 1), (0, 1)),), (0, -1)), with_comer, (((0, 1),),), 0, 1, (0, 1))

    def test_no_such_beat(self):
        for way in ((), ((),), WAY, WAY * 8):
            for beat in (len(way), len(way) + 1, len(way) + 100, LONG):
                for place in (0, 1, LONG):
                    self.refuses(NoBeat, {}, with_comer, way, beat, place, (0, 1))

    def test_the_last_beat(self):
        self.tells((((), ((1, 1),)), (-1,)), with_comer, ((), ()), 1, 0, (1, 1))
        self.tells(((((1, 1),),), (-1,)), with_comer, ((),), 0, 0, (1, 1))

    def test_many(self):
        draw = chance(50)
        for way in ways(51, 80):
            for beat in range(len(way)):
                place, comer = draw.randint(0, 4), (draw.randint(0, 1), draw.randint(1, 6))
                told, numbers = self.ask(with_comer, way, beat, place, comer)
                self.assertIs(True, is_way(told))
                at = sum(len(each) for each in way[:beat]) + min(place, len(way[beat]))
                self.same(numbers, tuple(range(at)) + (-1,) + tuple(range(at, many_in(way))))
                changed = list(way[beat])
                changed.insert(place, comer)
                self.same(told, way[:beat] + (tuple(changed),) + way[beat + 1:])


class WithoutAndLonger(PlainCase):

    def test_without_each(self):
        self.tells(((((1, 3),), (), ((0, 1),)), (1, 2)), without, WAY, 0)
        self.tells(((((0, 2),), (), ((0, 1),)), (0, 2)), without, WAY, 1)
        self.tells(((((0, 2), (1, 3)), (), ()), (0, 1)), without, WAY, 2)
        self.tells((((),), ()), without, (((0, 1),),), 0)
        self.tells(((((0, 1), (0, 1)),), (0, 2)), without, (((0, 1), (0, 1), (0, 1)),), 1)

    def test_longer_each(self):
        self.tells(((((0, 7), (1, 3)), (), ((0, 1),)), (0, 1, 2)), longer, WAY, 0, 5)
        self.tells(((((0, 2), (1, 9)), (), ((0, 1),)), (0, 1, 2)), longer, WAY, 1, 6)
        self.tells(((((0, 2), (1, 3)), (), ((0, 2),)), (0, 1, 2)), longer, WAY, 2, 1)
        for number in range(3):
            self.tells((WAY, (0, 1, 2)), longer, WAY, number, 0)

    def test_no_such_comer(self):
        for way in ((), ((),), ((), ()), WAY, WAY * 8):
            for number in (many_in(way), many_in(way) + 1, many_in(way) + 1000, LONG):
                self.refuses(NoComer, {"number": number}, without, way, number)
                for more in (0, 1, 6):
                    self.refuses(NoComer, {"number": number}, longer, way, number, more)

    def test_what_is_told_may_be_handed_in_again(self):
        way = WAY
        for turn in range(100):
            way, numbers = longer(way, 1, 6)
            self.assertEqual((0, 1, 2), numbers)
        self.same(way, (((0, 2), (1, 603)), (), ((0, 1),)))
        for turn in range(30):
            way, numbers = with_comer(way, 1, turn, (0, 1))
        self.same(way[1], ((0, 1),) * 30)
        self.tells(way[:2] + ((),), lambda: without(way, 32)[0])
        for turn in range(30):
            way, numbers = without(way, 2)
        self.same(way, (((0, 2), (1, 603)), (), ((0, 1),)))

    def test_many(self):
        for way in ways(52, 60):
            spread = [(at, comer) for at, beat in enumerate(way) for comer in beat]
            for number in range(len(spread)):
                rest = spread[:number] + spread[number + 1:]
                wanted = tuple(tuple(comer for at, comer in rest if at == beat) for beat in range(len(way)))
                others = tuple(range(number)) + tuple(range(number + 1, len(spread)))
                self.tells((wanted, others), without, way, number)
                at, (rank, work) = spread[number]
                changed = spread[:number] + [(at, (rank, work + 4))] + spread[number + 1:]
                wanted = tuple(tuple(comer for at, comer in changed if at == beat) for beat in range(len(way)))
                self.tells((wanted, tuple(range(len(spread)))), longer, way, number, 4)

    def test_put_in_and_taken_out_again(self):
        for way in ways(53, 30):
            for beat in range(len(way)):
                for place in range(len(way[beat]) + 1):
                    more, numbers = with_comer(way, beat, place, (1, 5))
                    self.same(without(more, numbers.index(-1))[0], way)


class FrontAlone(PlainCase):

    def test_plain_ones(self):
        self.tells(((), ()), front_alone, ())
        self.tells((((), ()), ()), front_alone, ((), ()))
        self.tells(((((0, 2),), (), ((0, 1),)), (0, 2)), front_alone, WAY)
        self.tells((((), ()), ()), front_alone, (((1, 2), (1, 1)), ((1, 6),)))
        self.tells(((((0, 2), (0, 1)), ((0, 6),)), (0, 1, 2)), front_alone, (((0, 2), (0, 1)), ((0, 6),)))

    def test_many(self):
        for way in ways(54, 80):
            spread = [comer for beat in way for comer in beat]
            wanted = tuple(tuple(comer for comer in beat if comer[0] == 0) for beat in way)
            self.tells((wanted, tuple(k for k, comer in enumerate(spread) if comer[0] == 0)), front_alone, way)


class Later(PlainCase):

    def test_each_case(self):
        cases = {
            (("gone", 0, 5, 1), ("gone", 0, 4, 9)): True,
            (("gone", 0, 4, 1), ("gone", 0, 4, 0)): False,
            (("gone", 0, 3, 9), ("gone", 0, 4, 0)): False,
            (("in", 0, 0), ("gone", 0, 4, 0)): True,
            (("in", 0, 0), ("gone", 0, 300, 0)): True,
            (("in", 3, 1), ("in", 3, 0)): False,
            (("gone", 0, 4, 0), ("in", 0, 3)): False,
            (("gone", 0, 300, 0), ("in", 0, 3)): False,
            (("lost", 0), ("gone", 0, 4, 0)): False,
            (("lost", 0), ("in", 0, 4)): False,
            (("lost", 0), ("lost", 0)): False,
            (("gone", 0, 4, 0), ("lost", 0)): False,
            (("in", 0, 4), ("lost", 0)): False,
            (("gone", 5, 300, 1), ("gone", 5, 299, 1)): True,
        }
        for (one, other), wanted in cases.items():
            self.tells([0] if wanted else [], later, [one], [other])
        one = [pair[0] for pair in cases]
        other = [pair[1] for pair in cases]
        self.tells([number for number, wanted in enumerate(cases.values()) if wanted], later, one, other)

    def test_both_ways_about_and_of_itself(self):
        one = [("gone", 0, 3, 0), ("gone", 0, 5, 1), ("in", 1, 2), ("lost", 2), ("gone", 2, 7, 0)]
        other = [("gone", 0, 4, 0), ("gone", 0, 2, 1), ("gone", 1, 9, 2), ("gone", 2, 5, 0), ("in", 2, 0)]
        self.tells([1, 2], later, one, other)
        self.tells([0, 4], later, other, one)
        self.tells([], later, one, one)
        self.tells([], later, other, list(other))
        self.tells([], later, [], [])

    def test_many(self):
        draw = chance(55)
        for turn in range(120):
            lists = ([], [])
            for number in range(draw.randint(0, 12)):
                beat = draw.randint(0, 3)
                for courses_told in lists:
                    gone = ("gone", beat, beat + draw.randint(1, 4), draw.randint(0, 3))
                    courses_told.append(draw.choice([gone, gone, ("in", beat, draw.randint(0, 9)), ("lost", beat)]))
            one, other = lists
            wanted = []
            for number in range(len(one)):
                moments = [course[2] if course[0] == "gone" else 10 ** 6 for course in (one[number], other[number])]
                if "lost" not in (one[number][0], other[number][0]) and other[number][0] == "gone":
                    wanted += [number] * (moments[0] > moments[1])
            self.tells(wanted, later, one, other)


def ends(house, way):
    """When each comer of a way is gone, the way drained; no bound, so nobody is lost."""
    return [course[2] for course in courses(house, drained(house, way))]


class First(PlainCase):

    def test_one_more_makes_no_other_gone_earlier(self):
        draw = chance(56)
        for way in ways(57, 50, beats=8):
            for hands in (1, 2, 3):
                house = (hands, None, "first")
                ahead = ends(house, way)
                for beat in range(len(way)):
                    comer = (drawn_beat(draw, comers=3) + ((0, 6),))[0]
                    more, numbers = with_comer(way, beat, draw.randint(0, 3), comer)
                    for moment, number in zip(ends(house, more), numbers):
                        if number >= 0:
                            self.assertGreaterEqual(moment, ahead[number])

    def test_a_longer_work_makes_no_other_gone_earlier(self):
        draw = chance(58)
        for way in ways(59, 50, beats=8):
            for hands in (1, 2, 3):
                house = (hands, None, "first")
                ahead = courses(house, drained(house, way))
                for number in range(many_in(way)):
                    more, numbers = longer(way, number, draw.randint(0, 6))
                    changed = courses(house, drained(house, more))
                    self.assertEqual([], later(ahead, changed))

    def test_a_hand_more_makes_none_gone_later(self):
        for way in ways(60, 80):
            for hands in (1, 2, 3):
                few, many = (hands, None, "first"), (hands + 1, None, "first")
                told = later(courses(many, drained(many, way)), courses(few, drained(few, way)))
                self.assertEqual([], told)


class Front(PlainCase):

    def test_under_frontoff_the_front_is_gone_as_if_alone(self):
        for way in ways(61, 100):
            alone, numbers = front_alone(way)
            for hands in (1, 2, 3):
                told = ends((hands, None, "frontoff"), way)
                self.assertEqual(ends((hands, None, "first"), alone), [told[number] for number in numbers])

    def test_under_front_it_is_gone_later_by_less_than_one_work(self):
        delayed = 0
        for way in ways(62, 150):
            alone, numbers = front_alone(way)
            told = ends((1, None, "front"), way)
            others = [work for beat in way for rank, work in beat if rank == 1]
            for moment, number in zip(ends((1, None, "first"), alone), numbers):
                delay = told[number] - moment
                self.assertGreaterEqual(delay, 0)
                self.assertLess(delay, max(others, default=1))
                delayed += delay > 0
        self.assertGreater(delayed, 20)


if __name__ == "__main__":
    unittest.main()
