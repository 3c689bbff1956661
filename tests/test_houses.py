"""Promises 3, 4, 17 and 18: HOUSES, rules and STANDS."""

import unittest

from hatchwaits.houses import in_hand, is_house, is_stand, keeps, words, work_left
from tests.helpers import KEEPING, LONG, RULES, ZOO, PlainCase, chance, right_house, right_stand, variants


class Houses(PlainCase):

    def test_right_and_wrong(self):
        rights = [(1, None, rule) for rule in RULES] + [(3, 6, rule) for rule in RULES]
        rights += [(1, 0, "first"), (LONG, LONG, "turns"), (2, 1, "short")]
        self.looks(is_house, right_house, rights)

    def test_wrong_ones(self):
        for thing in [(), (1, None), (1, None, "first", 0), [1, None, "first"], (0, None, "first"), (-1, 3, "first"),
                      (1, -1, "first"), (True, None, "first"), (1, True, "first"), (1, False, "first"), (1, "", "first"),
                      (None, None, "first"), (1, None, "firstoff"), (1, None, "First"), (1, None, ""), (1, None, "fir"),
                      (1, None, "first "), (1, None, None), (1, None, 0), (1, None, ("first",)), (1, None, ["first"]),
                      (1, None, "first last"), (-LONG, None, "first"), (1, -LONG, "first"), ((1, None, "first"),)]:
            self.assertIs(False, is_house(thing), thing)

    def test_words(self):
        self.tells(["first", "last", "short", "front", "lastoff", "shortoff", "frontoff", "turns"], words)

    def test_words_changed_by_the_asker(self):
        told = words()
        told.clear()
        told.append("mine")
        self.same(words(), RULES)
        self.assertIs(True, is_house((1, None, "first")))
        self.assertIs(False, is_house((1, None, "mine")))
        self.assertEqual(["mine"], told)

    def test_which_keep(self):
        for rule in RULES:
            self.tells(rule in ("first", "last", "short", "front"), keeps, rule)


def people(begun, others):
    return ((0, 2, True),) * begun + ((1, 3, False),) * others


class Stands(PlainCase):

    def test_right_and_wrong(self):
        stands = [(), people(0, 1), people(1, 0), people(1, 2), people(2, 1), people(3, 0), people(0, 6),
                  ((0, 1, False), (1, LONG, True), (0, 6, False))]
        things = ZOO + stands + [other for stand in stands for other in variants(stand)]
        for rule in RULES:
            for house in [(1, None, rule), (2, 2, rule), (3, 6, rule), (1, 0, rule)]:
                for thing in things:
                    self.assertIs(right_stand(house, thing), is_stand(house, thing), (house, repr(thing)[:300]))

    def test_asked_again(self):
        for thing in [(), people(1, 1), [people(1, 1)], [[0, 1, True]], ((0, 1, 1),)]:
            self.tells(right_stand((1, 2, "first"), thing), is_stand, (1, 2, "first"), thing)

    def test_no_bound_and_0_places(self):
        for rule in RULES:
            self.assertIs(True, is_stand((1, None, rule), people(0, 1600)))
            self.assertIs(True, is_stand((1, 0, rule), ()))
            self.assertIs(False, is_stand((1, 0, rule), people(0, 1)))
            self.assertIs(True, is_stand((1, None, rule), ()))

    def test_too_many_persons(self):
        for rule in RULES:
            for places in range(7):
                for many in range(9):
                    self.assertIs(many <= places, is_stand((1, places, rule), people(0, many)))

    def test_too_many_begun(self):
        for rule in RULES:
            for hands in (1, 2, 3):
                for begun in range(6):
                    wanted = begun <= hands if rule in KEEPING else begun == 0
                    for places in (None, 6):
                        self.assertIs(wanted, is_stand((hands, places, rule), people(begun, 0)))
                        self.assertIs(wanted, is_stand((hands, places, rule), people(begun, 1)))
                        self.assertIs(wanted, is_stand((hands, places, rule), people(begun, 1)[::-1]))

    def test_begun_is_a_truth(self):
        for begun in (0, 1, None, "", (), "True"):
            self.assertIs(False, is_stand((3, None, "first"), ((0, 1, begun),)))
            self.assertIs(False, is_stand((3, None, "turns"), ((0, 1, begun),)))

    def test_work(self):
        self.tells(0, work_left, ())
        self.tells(5, work_left, ((0, 5, True),))
        self.tells(9, work_left, ((1, 5, True), (0, 3, False), (1, 1, False)))
        self.tells(LONG + 1, work_left, ((1, LONG, True), (0, 1, False)))

    def test_how_many_are_picked(self):
        draw = chance(18)
        for rule in RULES:
            for hands in (1, 2, 3, LONG):
                for many in range(9):
                    stand = tuple((draw.randint(0, 1), draw.randint(1, 6), False) for k in range(many))
                    for places in (None, 8):
                        self.tells(many if many < hands else hands, in_hand, (hands, places, rule), stand)
            self.tells(0, in_hand, (2, 0, rule), ())
        self.tells(2, in_hand, (2, None, "first"), people(2, 3))
        self.tells(2, in_hand, (2, None, "last"), people(0, 3))
        self.tells(3, in_hand, (3, 6, "short"), people(1, 2))


if __name__ == "__main__":
    unittest.main()
