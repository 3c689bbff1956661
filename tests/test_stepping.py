"""Promises 4, 5, 19, 20, 21 and 22: one beat."""

import itertools
import unittest

from hatchwaits.houses import in_hand, is_stand, work_left
from hatchwaits.stepping import let_in, picked, step
from tests.helpers import KEEPING, RULES, PlainCase, chance
from tests.simulation import House, drawn_beat, drawn_house, drawn_stand

# One of each sort: who is short, who is front, who is last are all others.
LINE = ((1, 3, False), (0, 4, False), (1, 1, False), (0, 2, False), (1, 5, False))


def begun_at(line, *places):
    return tuple((rank, left, place in places) for place, (rank, left, begun) in enumerate(line))


def drawn_cases(seed, turns):
    draw = chance(seed)
    for turn in range(turns):
        for rule in RULES:
            house = drawn_house(draw, rule)
            yield house, drawn_stand(draw, house), drawn_beat(draw)


def small_cases():
    """All small stands under all rules, with few lefts and so with many who are alike."""
    persons = [(rank, left, begun) for rank in (0, 1) for left in (1, 2) for begun in (False, True)]
    beats = [(), ((0, 1),), ((1, 2), (0, 1))]
    for rule, hands, places in itertools.product(RULES, (1, 2, 3), (None, 3)):
        house = (hands, places, rule)
        for many in range(4):
            for stand in itertools.product(persons, repeat=many):
                if is_stand(house, stand):
                    yield house, stand, beats[(hands + many + len(rule)) % 3]


class LetIn(PlainCase):

    def test_no_bound(self):
        for rule in RULES:
            self.tells(((), 0), let_in, (1, None, rule), (), ())
            self.tells((((0, 3, False),), 0), let_in, (1, None, rule), (), ((0, 3),))
            self.tells((LINE + ((1, 2, False), (0, 6, False)), 0), let_in, (1, None, rule), LINE, ((1, 2), (0, 6)))

    def test_a_full_house(self):
        for rule in RULES:
            self.tells((LINE, 2), let_in, (1, 5, rule), LINE, ((1, 2), (0, 6)))
            self.tells((LINE, 0), let_in, (1, 5, rule), LINE, ())
            self.tells((LINE + ((1, 2, False),), 1), let_in, (3, 6, rule), LINE, ((1, 2), (0, 6)))
            self.tells((LINE + ((1, 2, False), (0, 6, False)), 0), let_in, (3, 7, rule), LINE, ((1, 2), (0, 6)))

    def test_0_places(self):
        for rule in RULES:
            self.tells(((), 3), let_in, (2, 0, rule), (), ((0, 1), (0, 1), (1, 1)))
            self.tells(((), 0), let_in, (2, 0, rule), (), ())

    def test_begun_ones_stay_begun_and_new_ones_are_not(self):
        for rule in KEEPING:
            stand = ((0, 2, True), (1, 1, False), (1, 4, True))
            self.tells((stand + ((0, 1, False),), 0), let_in, (2, None, rule), stand, ((0, 1),))

    def test_many(self):
        for house, stand, beat in itertools.chain(drawn_cases(19, 60), small_cases()):
            led = House(house, stand)
            lost = led.come(beat)
            self.same(let_in(house, stand, beat), (led.stand(), lost))


class Picked(PlainCase):

    def test_each_rule(self):
        wanted = {
            "first": [(0,), (0, 1), (0, 1, 2)],
            "last": [(4,), (3, 4), (2, 3, 4)],
            "short": [(2,), (2, 3), (0, 2, 3)],
            "front": [(1,), (1, 3), (0, 1, 3)],
            "lastoff": [(4,), (3, 4), (2, 3, 4)],
            "shortoff": [(2,), (2, 3), (0, 2, 3)],
            "frontoff": [(1,), (1, 3), (0, 1, 3)],
            "turns": [(0,), (0, 1), (0, 1, 2)],
        }
        for rule, by_hands in wanted.items():
            for hands, places in enumerate(by_hands, start=1):
                self.tells(places, picked, (hands, None, rule), LINE)
                self.tells(places, picked, (hands, 6, rule), LINE)

    def test_begun_ones_first_at_any_place(self):
        for rule in KEEPING:
            for place in range(5):
                self.tells((place,), picked, (1, None, rule), begun_at(LINE, place))
            for pair in itertools.combinations(range(5), 2):
                self.tells(pair, picked, (2, None, rule), begun_at(LINE, *pair))
        self.tells((0, 3), picked, (2, None, "first"), begun_at(LINE, 3))
        self.tells((0, 4), picked, (2, None, "last"), begun_at(LINE, 0))
        self.tells((2, 4), picked, (2, None, "short"), begun_at(LINE, 4))
        self.tells((1, 4), picked, (2, None, "front"), begun_at(LINE, 4))
        self.tells((0, 1, 4), picked, (3, None, "first"), begun_at(LINE, 4))
        self.tells((0, 3, 4), picked, (3, None, "last"), begun_at(LINE, 0))
        self.tells((1, 2, 3), picked, (3, None, "short"), begun_at(LINE, 1))
        self.tells((1, 2, 3), picked, (3, None, "front"), begun_at(LINE, 2))

    def test_of_as_little_the_ones_ahead(self):
        alike = ((1, 2, False), (0, 2, False), (1, 2, False), (0, 3, False), (0, 2, False))
        for rule in ("short", "shortoff"):
            self.tells((0,), picked, (1, None, rule), alike)
            self.tells((0, 1), picked, (2, None, rule), alike)
            self.tells((0, 1, 2), picked, (3, None, rule), alike)
            self.tells((1,), picked, (1, None, rule), ((0, 3, False), (1, 2, False), (0, 2, False)))

    def test_of_one_rank_the_ones_ahead(self):
        for rule in ("front", "frontoff"):
            self.tells((0, 1), picked, (2, None, rule), ((1, 5, False), (1, 2, False), (1, 1, False)))
            self.tells((0, 1), picked, (2, None, rule), ((0, 5, False), (0, 2, False), (0, 1, False)))
            self.tells((0, 2), picked, (2, None, rule), ((1, 1, False), (1, 2, False), (0, 9, False)))

    def test_no_more_than_there_are(self):
        for rule in RULES:
            self.tells((), picked, (1, None, rule), ())
            self.tells((), picked, (3, 0, rule), ())
            self.tells((0,), picked, (3, None, rule), LINE[:1])
            self.tells((0, 1), picked, (3, None, rule), LINE[:2])
            self.tells((0, 1, 2), picked, (3, None, rule), LINE[:3])

    def test_many(self):
        for house, stand, beat in itertools.chain(drawn_cases(20, 60), small_cases()):
            led = House(house, stand)
            led.come(beat)
            filled = led.stand()
            self.same(picked(house, filled), led.places_picked())


class Step(PlainCase):

    def test_a_void_stand_and_a_void_beat(self):
        for rule in RULES:
            for places in (None, 0, 2):
                self.tells(((), 0, ()), step, (2, places, rule), (), ())

    def test_who_comes_is_picked_in_the_same_beat(self):
        for rule in RULES:
            self.tells(((), 0, (0,)), step, (1, None, rule), (), ((1, 1),))
            self.tells((((1, 2, rule in KEEPING),), 0, ()), step, (1, None, rule), (), ((1, 3),))

    def test_each_rule(self):
        wanted = {
            "first": (((1, 2, True), (0, 4, False), (1, 1, False)), ()),
            "last": (((1, 3, False), (0, 4, False)), (2,)),
            "short": (((1, 3, False), (0, 4, False)), (2,)),
            "front": (((1, 3, False), (0, 3, True), (1, 1, False)), ()),
            "lastoff": (((1, 3, False), (0, 4, False)), (2,)),
            "shortoff": (((1, 3, False), (0, 4, False)), (2,)),
            "frontoff": (((1, 3, False), (0, 3, False), (1, 1, False)), ()),
            "turns": (((0, 4, False), (1, 1, False), (1, 2, False)), ()),
        }
        for rule, (stand, gone) in wanted.items():
            self.tells((stand, 0, gone), step, (1, None, rule), LINE[:3], ())
            self.tells((stand, 1, gone), step, (1, 3, rule), LINE[:3], ((0, 1),))

    def test_turns_go_behind_all_others(self):
        stand = ((0, 2, False), (1, 1, False), (0, 3, False), (1, 4, False))
        self.tells((((1, 1, False), (0, 3, False), (1, 4, False), (0, 1, False)), 0, ()), step, (1, None, "turns"), stand, ())
        self.tells((((0, 3, False), (1, 4, False), (0, 1, False)), 0, (1,)), step, (2, None, "turns"), stand, ())
        self.tells((((1, 4, False), (0, 1, False), (0, 2, False)), 0, (1,)), step, (3, None, "turns"), stand, ())
        self.tells((((0, 3, False), (1, 4, False), (1, 6, False), (0, 1, False)), 0, (1,)),
                   step, (2, None, "turns"), stand, ((1, 6),))

    def test_all_others_stay_in_their_order(self):
        stand = ((0, 2, False), (1, 2, True), (0, 3, True), (1, 4, False))
        for rule in KEEPING:
            self.tells((((0, 2, False), (1, 1, True), (0, 2, True), (1, 4, False)), 0, ()), step, (2, None, rule), stand, ())

    def test_the_places_of_the_gone(self):
        stand = ((0, 1, False), (1, 5, False), (0, 1, True), (1, 1, True))
        self.tells((((1, 5, False), (0, 2, False)), 0, (0, 2, 3)), step, (3, None, "first"), stand, ((0, 2),))
        self.tells((((0, 1, False), (1, 5, False)), 0, (2, 3, 4)), step, (3, None, "last"), stand, ((0, 1),))
        self.tells((((1, 5, False),), 0, (0, 2, 3)), step, (3, None, "short"), stand, ())
        off = ((1, 3, False), (1, 1, False), (0, 1, False))
        self.tells((((1, 3, False), (1, 1, False)), 0, (2, 3)), step, (2, None, "frontoff"), off, ((0, 1),))
        self.tells((((1, 3, False), (1, 1, False), (0, 1, False)), 0, (3,)), step, (1, 4, "lastoff"), off, ((0, 1),))

    def test_whoever_was_picked_ahead_is_broken_off(self):
        self.tells((((0, 3, False), (1, 5, False)), 0, ()), step, (1, None, "lastoff"), ((0, 3, False),), ((1, 6),))
        self.tells((((0, 3, False),), 0, (1,)), step, (1, None, "shortoff"), ((0, 3, False),), ((1, 1),))
        self.tells((((1, 3, False), (0, 5, False)), 0, ()), step, (1, None, "frontoff"), ((1, 3, False),), ((0, 6),))
        for rule in ("last", "short", "front"):
            self.tells((((1, 2, True), (0, 1, False)), 0, ()), step, (1, None, rule), ((1, 3, True),), ((0, 1),))

    def test_many(self):
        for house, stand, beat in drawn_cases(21, 150):
            led = House(house, stand)
            lost = led.come(beat)
            gone = led.work()
            self.tells((led.stand(), lost, gone), step, house, stand, beat)

    def test_all_small_ones(self):
        for house, stand, beat in small_cases():
            led = House(house, stand)
            lost = led.come(beat)
            gone = led.work()
            self.same(step(house, stand, beat), (led.stand(), lost, gone))


class Balance(PlainCase):

    def test_what_promise_22_says(self):
        for house, stand, beat in itertools.chain(drawn_cases(22, 120), small_cases()):
            filled, lost = let_in(house, stand, beat)
            chosen = picked(house, filled)
            told, lost_too, gone = step(house, stand, beat)
            entered = len(beat) - lost
            self.assertEqual(lost, lost_too)
            self.assertIs(True, is_stand(house, told))
            self.assertEqual(len(stand) + entered, len(told) + len(gone))
            ranks = sorted([rank for rank, left, begun in told] + [filled[place][0] for place in gone])
            self.assertEqual(sorted([person[0] for person in stand] + [rank for rank, work in beat[:entered]]), ranks)
            brought = sum(work for rank, work in beat[:entered])
            self.assertEqual(work_left(stand) + brought - len(chosen), work_left(told))
            self.assertEqual(in_hand(house, filled), len(chosen))
            self.assertEqual(sorted(set(chosen)), list(chosen))
            self.assertLessEqual(set(gone), set(chosen))
            if house[2] in KEEPING:
                self.assertLessEqual({place for place, person in enumerate(filled) if person[2]}, set(chosen))


if __name__ == "__main__":
    unittest.main()
