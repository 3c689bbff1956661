"""Promises 2 and 76: houses, ways, stands and papers written as texts."""

import unittest

from hatchwaits.houses import is_house
from hatchwaits.pairing import pairs_told
from hatchwaits.texts import shown_house, shown_paper, shown_stand, shown_way
from tests.helpers import RULES, PlainCase, chance
from tests.pairs import QUESTIONS, drawn_setting
from tests.simulation import LONGEST
from tests.wordings import (
    long_house, long_paper, long_stand, long_way, written_house, written_paper, written_stand, written_way)

MOST = 10 ** 12 - 1


class Shown(PlainCase):

    def test_houses(self):
        self.tells("2 6 first", shown_house, (2, 6, "first"))
        self.tells("1 - turns", shown_house, (1, None, "turns"))
        self.tells("3 0 shortoff", shown_house, (3, 0, "shortoff"))
        self.tells("999999999999 999999999999 front", shown_house, (MOST, MOST, "front"))
        for rule in RULES:
            self.tells("1 10 " + rule, shown_house, (1, 10, rule))

    def test_ways(self):
        self.tells("none", shown_way, ())
        self.tells("-", shown_way, ((),))
        self.tells("- -", shown_way, ((), ()))
        self.tells("0:3,1:2", shown_way, (((0, 3), (1, 2)),))
        self.tells("0:3,1:2 - 1:6", shown_way, (((0, 3), (1, 2)), (), ((1, 6),)))
        self.tells("- 0:999999999999", shown_way, ((), ((0, MOST),)))
        self.tells("0:1,0:1,0:1 0:10", shown_way, (((0, 1),) * 3, ((0, 10),)))
        self.tells(written_way(LONGEST), shown_way, LONGEST)

    def test_stands(self):
        self.tells("-", shown_stand, ())
        self.tells("0:3* 1:2", shown_stand, ((0, 3, True), (1, 2, False)))
        self.tells("1:1", shown_stand, ((1, 1, False),))
        self.tells("1:1*", shown_stand, ((1, 1, True),))
        self.tells("0:10 0:999999999999* 1:1", shown_stand, ((0, 10, False), (0, MOST, True), (1, 1, False)))

    def test_papers(self):
        self.tells(["kept"], shown_paper, ("kept", ()))
        self.tells(["parted"], shown_paper, ("parted", ()))
        self.tells(["kept", "- / -"], shown_paper, ("kept", (((), ()),)))
        one, other = ((0, 3, True), (1, 2, False)), ((0, 1, False),)
        self.tells(["kept", "0:3* 1:2 / 0:1", "- / 0:3* 1:2", "0:1 / -", "0:1 / -"], shown_paper,
                   ("kept", ((one, other), ((), one), (other, ()), (other, ()))))
        self.tells(["parted", "0:3,1:2", "-", "1:1"], shown_paper, ("parted", (((0, 3), (1, 2)), (), ((1, 1),))))

    def test_papers_that_were_told(self):
        draw = chance(240)
        words = set()
        for turn in range(60):
            houses, beats, begin, pairs = drawn_setting(draw, 40)
            paper = pairs_told(*houses, beats, begin, draw.choice(QUESTIONS))
            words.add(paper[0])
            self.tells(written_paper(paper), shown_paper, paper)
        self.assertEqual({"kept", "parted"}, words)

    def test_drawn_ones(self):
        draw = chance(241)
        for turn in range(300):
            house, way, stand, paper = long_house(draw), long_way(draw), long_stand(draw), long_paper(draw)
            self.assertTrue(is_house(house))
            self.tells(written_house(house), shown_house, house)
            self.tells(written_way(way), shown_way, way)
            self.tells(written_stand(stand), shown_stand, stand)
            self.tells(written_paper(paper), shown_paper, paper)

    def test_unlike_things_have_unlike_texts(self):
        draw = chance(242)
        for make, show in ((long_house, shown_house), (long_way, shown_way), (long_stand, shown_stand),
                           (long_paper, shown_paper)):
            things = {make(draw) for turn in range(400)}
            self.assertEqual(len(things), len({repr(show(thing)) for thing in things}))

    def test_rows_are_new_each_time(self):
        paper = ("kept", (((), ()),))
        first, second = shown_paper(paper), shown_paper(paper)
        self.assertIsNot(first, second)
        first.append("x")
        first[0] = "y"
        self.same(second, ["kept", "- / -"])
        self.same(shown_paper(paper), ["kept", "- / -"])


if __name__ == "__main__":
    unittest.main()
