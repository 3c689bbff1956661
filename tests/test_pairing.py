"""Promises 6, 74 and 75: papers about two houses and one row of beats told."""

import unittest

from hatchwaits.errors import TooMany
from hatchwaits.pairchecker import lets_pairs
from hatchwaits.pairing import pairs_told
from tests.helpers import RULES, PlainCase, chance
from tests.pairs import QUESTIONS, all_pairs, drawn_pair, drawn_setting, parted_by, shortest_parting, so_at
from tests.simulation import drawn_beats, drawn_stand

EMPTY = ((), ())
TWO = ((0, 1), (0, 1))
BEATS = (((), 1), (TWO, 1))
VOID = (((), 1),)

# (how many pairs the beginning leads to, houses, beats, beginning)
NEAR_THE_BOUND = [
    (299, ((3, 1, "lastoff"), (1, 4, "front")), (((), 10), (((0, 3),), 1), (((1, 3),), 3)), EMPTY),
    (299, ((3, 5, "front"), (2, 2, "frontoff")), (((), 4), (((0, 2),), 2), (((1, 3), (1, 1)), 6)),
     (((1, 3, False), (1, 6, True)), ((1, 5, False),))),
    (300, ((2, 5, "first"), (1, 4, "short")), ((((1, 1),), 2), (((1, 3), (1, 2)), 10)), EMPTY),
    (300, ((1, 5, "short"), (1, 2, "frontoff")), ((((0, 2),), 1), (((0, 3),), 8), (((0, 3), (0, 2)), 6)), EMPTY),
    (300, ((2, 5, "short"), (3, 2, "turns")), (((), 12), (((1, 2),), 7), (((1, 3),), 3)),
     (((1, 5, True), (1, 3, True)), ((0, 6, False), (0, 4, False)))),
    (301, ((2, 3, "last"), (2, 2, "shortoff")),
     (((), 3), (((0, 1),), 2), (((0, 3), (1, 2)), 8), (((1, 3), (1, 3)), 11)), EMPTY),
    (301, ((1, 4, "turns"), (1, 3, "last")), (((), 10), (((0, 2), (1, 1)), 11)),
     (((1, 2, False),), ((0, 1, True), (1, 1, False)))),
    (301, ((2, 3, "last"), (2, 3, "turns")), ((((0, 2),), 1), (((1, 3),), 9)),
     (((1, 4, False),), ((1, 3, False), (0, 3, False), (1, 2, False)))),
    (302, ((1, 6, "frontoff"), (3, 5, "frontoff")), ((((0, 2), (0, 1)), 1), (((1, 2), (0, 1)), 5)), EMPTY),
]

# (how many stands, house, beats, stand): of a house beside itself all questions hold.
BESIDE_ITSELF = [
    (300, (1, 5, "front"), (((), 11), (((0, 1),), 12), (((0, 2),), 1), (((1, 1),), 3)), ()),
    (300, (3, 6, "first"), (((), 3), (((0, 3),), 11), (((1, 1),), 9), (((1, 2),), 5), (((1, 3),), 1)), ((1, 6, True),)),
    (301, (3, 6, "turns"), (((), 12), (((0, 3),), 5), (((1, 1), (1, 2)), 5)),
     ((1, 4, False), (0, 4, False), (0, 1, False), (0, 4, False))),
    (301, (3, 5, "short"), (((), 6), (((0, 3),), 5), (((1, 2),), 10)), ((0, 5, True), (1, 6, False), (1, 1, True))),
    (302, (2, 4, "front"), (((), 5), (((0, 1),), 4), (((0, 1), (1, 3)), 6), (((0, 3),), 6), (((1, 2), (1, 1)), 9)), ()),
]


class Told(PlainCase):

    def right(self, houses, beats, begin, question, pairs):
        """What is told is let by, and of the sort that the pairs make it; told is its word."""
        told = self.ask(pairs_told, *houses, beats, begin, question)
        self.assertIs(tuple, type(told))
        self.assertIs(True, lets_pairs(*houses, beats, begin, question, told))
        holds = all(so_at(houses, beats, pair, question) for pair in pairs)
        self.assertEqual("kept" if holds else "parted", told[0])
        if not holds:
            self.assertTrue(parted_by(houses, begin, question, told[1]))
        return told[0]

    def refused(self, houses, beats, begin, questions=QUESTIONS):
        for question in questions:
            self.refuses(TooMany, {"word": "pairs"}, pairs_told, *houses, beats, begin, question)

    def test_by_hand(self):
        one, other = (1, 1, "first"), (1, 2, "first")
        stays = ((), ((0, 1, False),))
        told = self.ask(pairs_told, one, other, BEATS, EMPTY, "line")
        self.assertEqual(("kept", {EMPTY, stays}), (told[0], set(told[1])))
        for question, word in (("count", "parted"), ("work", "parted"), ("lost", "parted"), ("gone", "parted")):
            self.assertEqual(word, self.right((one, other), BEATS, EMPTY, question, [EMPTY, stays]))
        told = self.ask(pairs_told, other, one, BEATS, (((0, 1, True),), ()), "line")
        self.assertIs(True, lets_pairs(other, one, BEATS, (((0, 1, True),), ()), "line", told))
        self.assertEqual("parted", told[0])

    def test_drawn_ones(self):
        draw = chance(230)
        told = {}
        for turn in range(250):
            houses, beats, begin, pairs = drawn_setting(draw, 80)
            for question in QUESTIONS:
                word = self.right(houses, beats, begin, question, pairs)
                told[question, word] = told.get((question, word), 0) + 1
        self.assertEqual(10, len(told), told)
        self.assertGreater(min(told.values()), 20, told)

    def test_each_two_rules_with_places_and_without(self):
        draw = chance(231)
        told = {"kept": 0, "parted": 0, "refused": 0}
        for rule in RULES:
            for other in RULES:
                hands = draw.randint(1, 2)
                houses = ((hands, draw.choice([None, 2]), rule), (hands, draw.choice([None, 2, 3]), other))
                for beats in (drawn_beats(draw, 2, 2, 1), drawn_beats(draw, 2, 1, 2), (((), 3), (((0, 1), (1, 1)), 1))):
                    begin = draw.choice([EMPTY, drawn_pair(draw, houses)])
                    pairs = all_pairs(houses, beats, begin)
                    if pairs is None:
                        self.refused(houses, beats, begin, QUESTIONS[told["refused"] % 5:][:1])
                        told["refused"] += 1
                        continue
                    for question in QUESTIONS:
                        told[self.right(houses, beats, begin, question, pairs)] += 1
        self.assertGreater(min(told.values()), 15, told)

    def test_four_and_twenty_beats(self):
        draw = chance(232)
        most = tuple((beat, 1) for beat in sorted(
            [()] + [((rank, work),) for rank in (0, 1) for work in (1, 2, 3, 4, 5, 6)]
            + [((rank, 1), (other, work)) for rank in (0, 1) for other in (0, 1) for work in (1, 2, 3)][:11]))
        self.assertEqual(24, len(most))
        told = {"kept": 0, "parted": 0, "refused": 0}
        for turn in range(25):
            houses = tuple((draw.randint(1, 3), draw.randint(0, 1), draw.choice(RULES)) for k in (0, 1))
            begin = tuple(drawn_stand(draw, house, 1) for house in houses)
            pairs = all_pairs(houses, most, begin)
            if pairs is None:
                self.refused(houses, most, begin)
                told["refused"] += 1
                continue
            for question in QUESTIONS:
                told[self.right(houses, most, begin, question, pairs)] += 1
        self.refused(((1, 3, "first"), (1, 3, "last")), most, EMPTY)
        self.assertGreater(min(told["kept"], told["parted"]), 15, told)

    def test_just_at_the_bound(self):
        for many, houses, beats, begin in NEAR_THE_BOUND:
            pairs = all_pairs(houses, beats, begin, 400)
            self.assertEqual(many, len(pairs))
            if many > 300:
                self.refused(houses, beats, begin)
                continue
            for question in QUESTIONS:
                self.right(houses, beats, begin, question, pairs)

    def test_just_at_the_bound_where_all_holds(self):
        for many, house, beats, stand in BESIDE_ITSELF:
            pairs = all_pairs((house, house), beats, (stand, stand), 400)
            self.assertEqual(many, len(pairs))
            if many > 300:
                self.refused((house, house), beats, (stand, stand))
                continue
            for question in QUESTIONS:
                self.assertEqual("kept", self.right((house, house), beats, (stand, stand), question, pairs))

    def test_just_at_the_bound_in_one_row(self):
        # Each void beat leaves one beat of work less, so these lead to just as many pairs as there is work, and one.
        houses = ((1, None, "first"), (1, 4, "turns"))
        for left in (1, 2, 299, 300, 301):
            begin = (((0, left, False),), ())
            if left >= 300:
                self.refused(houses, VOID, begin)
                continue
            pairs = all_pairs(houses, VOID, begin)
            self.assertEqual(left + 1, len(pairs))
            for question in QUESTIONS:
                self.assertEqual("kept" if question == "lost" else "parted",
                                 self.right(houses, VOID, begin, question, pairs))
            told = pairs_told(*houses, VOID, begin, "gone")
            self.assertEqual(("parted", ((),) * left), told)

    def test_refused_though_one_that_does_not_hold_lies_near(self):
        houses = ((1, None, "first"), (1, None, "last"))
        crowd = ((((0, 2),), 1), (((1, 2),), 1))
        for begin in (EMPTY, (((0, 1, False),), ()), (((0, 3, False),) * 3, ((1, 1, True),))):
            for question in QUESTIONS:
                if begin != EMPTY and question in ("count", "work", "line"):
                    self.assertFalse(so_at(houses, crowd, begin, question))
            self.refused(houses, crowd, begin)
        self.refused(((1, 0, "first"), (1, None, "first")), (((TWO), 1),), EMPTY)

    def test_houses_without_places_that_lead_to_an_end(self):
        for houses in (((2, None, "first"), (3, None, "turns")), ((2, None, "lastoff"), (2, None, "front"))):
            for begin in (EMPTY, (((0, 2, False),), ((1, 1, False), (0, 3, False)))):
                pairs = all_pairs(houses, BEATS, begin)
                self.assertIsNotNone(pairs)
                for question in QUESTIONS:
                    self.right(houses, BEATS, begin, question, pairs)

    def test_without_end(self):
        for rule in RULES:
            for beats in (BEATS, ((TWO, 1),), ((((0, 2),), 5),), (((), 1), (((0, 1), (1, 2)), 1))):
                self.refused(((1, None, rule), (1, 2, "first")), beats, EMPTY, ["line"])
                self.refused(((1, 2, "first"), (1, None, rule)), beats, EMPTY, ["gone"])

    def test_way_of_no_beat(self):
        houses = ((1, 2, "first"), (1, 2, "first"))
        begin = (((0, 2, False),), ())
        for question in ("line", "count", "work"):
            told = pairs_told(*houses, BEATS, begin, question)
            self.assertIs(True, lets_pairs(*houses, BEATS, begin, question, told))
            self.assertEqual("parted", told[0])
        self.assertIs(True, lets_pairs(*houses, BEATS, begin, "line", ("parted", ())))

    def test_no_way_is_missed(self):
        draw = chance(233)
        parted = 0
        for turn in range(100):
            houses, beats, begin, pairs = drawn_setting(draw, 30)
            for question in QUESTIONS:
                way = shortest_parting(houses, beats, begin, question)
                if way is not None:
                    self.assertEqual("parted", pairs_told(*houses, beats, begin, question)[0])
                    parted += 1
        self.assertGreater(parted, 100)

    def test_always_the_same_sort(self):
        draw = chance(234)
        for turn in range(40):
            houses, beats, begin, pairs = drawn_setting(draw, 30)
            for question in QUESTIONS:
                sorts = set()
                for again in range(3):
                    sorts.add(pairs_told(*houses, beats, begin, question)[0])
                    pairs_told(*houses[::-1], beats, begin[::-1], question)
                self.assertEqual(1, len(sorts))


class WorksOfOne(PlainCase):
    """Point 6: with works of 1 more places never have fewer in, and more hands never more in, whatever rules."""

    def test_more_places_and_more_hands(self):
        draw = chance(235)
        tried = 0
        while tried < 60:
            hands, places = draw.randint(1, 3), draw.randint(0, 4)
            one, other = draw.choice(RULES), draw.choice(RULES)
            beats = drawn_beats(draw, 3, 3, 1)
            wider, quicker = (hands, places + draw.randint(0, 2), other), (hands + draw.randint(0, 2), places, other)
            for houses in (((hands, places, one), wider), (quicker, (hands, places, one))):
                if all_pairs(houses, beats, EMPTY) is not None:
                    self.assertEqual("kept", pairs_told(*houses, beats, EMPTY, "line")[0])
                    tried += 1

    def test_one_hand_has_the_same_work_under_all_rules(self):
        # Without bound and with one hand the work hangs on no rule; here it comes back often enough to be told.
        for rule in RULES:
            for other in RULES:
                beats = (((), 1), (((0, 1),), 1))
                begin = (((0, 2, False), (1, 3, False)), ((1, 5, False),))
                told = pairs_told((1, None, rule), (1, None, other), beats[:1], begin, "work")
                self.assertEqual("kept", told[0])
                told = pairs_told((1, None, rule), (1, None, other), beats, EMPTY, "work")
                self.assertEqual("kept", told[0])


if __name__ == "__main__":
    unittest.main()
