"""Promises 3, 14, 15 and 16: COMERS, BEATS and WAYS."""

import itertools
import unittest

from hatchwaits.comings import beats_of, flow_of, is_beat, is_beats, is_comer, is_way, many_in, work_in
from hatchwaits.lots import is_flow
from tests.helpers import LONG, PlainCase, chance, right_beat, right_beats, right_comer, right_way

COMERS = [(0, 1), (1, 1), (0, 6), (1, 3), (0, LONG)]
BEATS = [(), ((0, 1),), ((1, 2), (0, 3)), ((0, 1), (0, 1)), ((0, 1), (1, 1), (0, LONG))]
WAYS = [(), ((),), ((), ()), (((0, 1),),), ((), ((0, 1), (1, 2)), ()), (((1, 4),), ((1, 4),))]
WITH_LOTS = [
    (((), 1),),
    (((), LONG),),
    ((((0, 1),), 2),),
    (((), 3), (((0, 1),), 1), (((0, 1), (0, 1)), 1), (((0, 1), (1, 1)), 5), (((0, 2),), 1), (((1, 1),), 2)),
]


class Looks(PlainCase):

    def test_comers(self):
        self.looks(is_comer, right_comer, COMERS)
        for thing in [(0, 0), (0, -1), (2, 1), (-1, 1), (True, 1), (False, 1), (0, True), (1, True), [0, 1], (0,), (),
                      (0, 1, 1), (0, 1, False), ((0, 1),), ("0", 1), (0, "1"), (None, 1), (0, None), (LONG, 1), (0, -LONG)]:
            self.assertIs(False, is_comer(thing), thing)

    def test_beats(self):
        self.looks(is_beat, right_beat, BEATS)
        for thing in [[], None, 0, "", (0, 1), [(0, 1)], ([0, 1],), ((0, 1), None), ((0, 1), (0, 0)), ((0, 0), (0, 1)),
                      (((0, 1),),), ((),), ((0, True),)]:
            self.assertIs(False, is_beat(thing), thing)

    def test_ways(self):
        self.looks(is_way, right_way, WAYS)
        for thing in [[], None, (None,), ((0, 1),), ([],), ((), []), ((), [(0, 1)]), (((0, 1),), ((0, 0),)), (((),),),
                      (((0, 1),), ((False, 1),))]:
            self.assertIs(False, is_way(thing), thing)

    def test_beats_with_lots(self):
        self.looks(is_beats, right_beats, WITH_LOTS)
        for thing in [(), [], ((),), ((), 1), [((), 1)], (((), 0),), (((), -1),), (((), True),), (((), None),), (([], 1),),
                      ([(), 1],), (((),),), (((), 1, 1),), ((((0, 1),), 1), 1), (((0, 1), 1),)]:
            self.assertIs(False, is_beats(thing), thing)

    def test_beats_with_lots_rise_and_are_unlike(self):
        one, other = ((0, 1),), ((0, 1), (0, 1))
        self.assertIs(True, is_beats(((one, 9), (other, 1))))
        self.assertIs(False, is_beats(((other, 1), (one, 9))))
        self.assertIs(False, is_beats(((one, 1), (one, 2))))
        self.assertIs(False, is_beats(((one, 1), (one, 1))))
        self.assertIs(False, is_beats((((), 1), (other, 1), (one, 1))))
        self.assertIs(False, is_beats((((), 1), (one, 1), (one, 1))))
        self.assertIs(False, is_beats(((one, 1), (other, 1), ((), 1))))
        for order in itertools.permutations(WITH_LOTS[3]):
            self.assertIs(order == WITH_LOTS[3], is_beats(order))


class Ways(PlainCase):

    def test_plain_ones(self):
        for way, many, work in [((), 0, 0), (((),), 0, 0), (((), ()), 0, 0), ((((0, 3),),), 1, 3),
                                ((((0, 3), (1, 2)), (), ((1, 6),)), 3, 11), ((((1, 1),),) * 24, 24, 24)]:
            self.tells(many, many_in, way)
            self.tells(work, work_in, way)

    def test_many(self):
        draw = chance(14)
        for turn in range(60):
            counts = [draw.randint(0, 3) for beat in range(draw.randint(0, 12))]
            way = tuple(tuple((draw.randint(0, 1), draw.randint(1, 6)) for k in range(count)) for count in counts)
            self.tells(sum(counts), many_in, way)
            work = 0
            for beat in way:
                for comer in beat:
                    work += comer[1]
            self.tells(work, work_in, way)


def beats_drawn(counts, works):
    """The lots by promise 15, of each row of works by itself."""
    told = {}
    top = max(k for k, lot in enumerate(counts) if lot)
    for many, lot in enumerate(counts):
        for row in itertools.product(range(len(works)), repeat=many):
            weight = lot * sum(works) ** (top - many)
            for k in row:
                weight *= works[k]
            if weight:
                told[tuple((0, k + 1) for k in row)] = weight
    return tuple(sorted(told.items()))


class Made(PlainCase):

    def test_plain_ones(self):
        self.tells((((), 1),), beats_of, (1,), (1,))
        self.tells((((), 5),), beats_of, (5,), (2, 3))
        self.tells((((), 1), (((0, 1),), 1)), beats_of, (1, 1), (1,))
        self.tells((((), 6), (((0, 1),), 4), (((0, 2),), 2)), beats_of, (2, 2), (2, 1))
        self.tells(((((0, 2),), 3),), beats_of, (0, 1), (0, 3))
        self.tells(((((0, 1), (0, 1)), 4), (((0, 1), (0, 3)), 2), (((0, 3), (0, 1)), 2), (((0, 3), (0, 3)), 1)),
                   beats_of, (0, 0, 1), (2, 0, 1))
        self.tells((((), 18), (((0, 1), (0, 1)), 4), (((0, 1), (0, 2)), 2), (((0, 2), (0, 1)), 2), (((0, 2), (0, 2)), 1)),
                   beats_of, (2, 0, 1), (2, 1))

    def test_many(self):
        draw = chance(15)
        pairs = [((0, 0, 0, 1), (1, 0, 1)), ((1, 2, 3, 4), (1, 2, 3, 4, 5, 6)), ((3, 0, 0, 2), (0, 0, 0, 0, 0, 12))]
        for turn in range(60):
            counts = tuple(draw.choice([0, draw.randint(1, 12)]) for k in range(draw.randint(0, 3))) + (draw.randint(1, 12),)
            works = tuple(draw.choice([0, draw.randint(1, 12)]) for k in range(draw.randint(0, 3))) + (draw.randint(1, 12),)
            pairs.append((counts, works))
        for counts, works in pairs:
            self.tells(beats_drawn(counts, works), beats_of, counts, works)
            self.assertIs(True, is_beats(beats_of(counts, works)))

    def test_flows_plain(self):
        self.tells((3,), flow_of, (((), 3),))
        self.tells((0, 0, 4), flow_of, ((((0, 2),), 4),))
        self.tells((3, 1, 7, 0, 9), flow_of,
                   (((), 3), (((0, 1),), 1), (((0, 1), (1, 1)), 5), (((0, 1), (1, 3)), 9), (((0, 2),), 1), (((1, 2),), 1)))

    def test_flows_of_several_beats_of_one_work(self):
        beats = tuple(sorted([(((0, 3),), 2), (((1, 3),), 4), (((0, 1), (0, 2)), 6), (((0, 2), (0, 1)), 10)]))
        self.tells((0, 0, 0, 22), flow_of, beats)

    def test_flows_many(self):
        draw = chance(16)
        comers = [(rank, work) for rank in (0, 1) for work in (1, 2, 3)]
        every = [()] + [(comer,) for comer in comers] + list(itertools.product(comers, comers))
        for turn in range(80):
            beats = tuple((beat, draw.randint(1, 12)) for beat in sorted(draw.sample(every, draw.randint(1, 6))))
            most = max(sum(work for rank, work in beat) for beat, lot in beats)
            wanted = [0] * (most + 1)
            for beat, lot in beats:
                wanted[sum(work for rank, work in beat)] += lot
            self.tells(tuple(wanted), flow_of, beats)
            self.assertIs(True, is_flow(flow_of(beats)))


if __name__ == "__main__":
    unittest.main()
