"""Promises 2, 3, 10 and 11: NUMBERS and FRACTIONS."""

import unittest
from fractions import Fraction

from hatchwaits.fractions import fraction, is_fraction, less, mean_of, minus, over, plus, times
from tests.helpers import LONG, PlainCase, chance, plain, right_fraction


def fibonacci(n):
    one, other = 0, 1
    for turn in range(n):
        one, other = other, one + other
    return one


# Neighbours among these take Euclid's way as many steps as numbers of two hundred figures can.
NEAR, FAR = fibonacci(957), fibonacci(958)

NUMBERS = [0, 1, 2, 3, 4, 6, 9, 12, 35, 10 ** 12, LONG, 6 * fibonacci(900), NEAR, FAR]
BOTH_SIGNS = sorted(set(NUMBERS + [-number for number in NUMBERS]))


FRACTIONS = sorted({plain(Fraction(top, bottom)) for top in BOTH_SIGNS for bottom in (1, 2, 3, 12, LONG, FAR)})


class IsFraction(PlainCase):

    def test_right_and_wrong(self):
        rights = [(0, 1), (1, 1), (1, 2), (-1, 2), (7, 3), (-7, 1), (LONG, 1), (1, LONG), (-LONG, LONG + 1),
                  (NEAR, FAR), (-FAR, NEAR)]
        self.looks(is_fraction, right_fraction, rights)

    def test_not_in_lowest_terms(self):
        for thing in [(2, 4), (0, 2), (0, 7), (3, 3), (-2, 4), (0, LONG), (LONG, LONG), (-LONG, LONG),
                      (3 * fibonacci(950), 3 * fibonacci(951)), (6, LONG * 3)]:
            self.assertIs(False, is_fraction(thing), thing)

    def test_bottoms_from_1_on(self):
        for thing in [(1, 0), (0, 0), (1, -1), (1, -2), (0, -1), (-1, -2), (-LONG, -1), (1, -LONG)]:
            self.assertIs(False, is_fraction(thing), thing)

    def test_truths_are_no_numbers(self):
        for thing in [(True, 1), (1, True), (False, 1), (True, True), (True, 2), (False, True)]:
            self.assertIs(False, is_fraction(thing), thing)

    def test_all_small_ones(self):
        for top in range(-13, 14):
            for bottom in range(-13, 14):
                thing = (top, bottom)
                self.assertIs(right_fraction(thing), is_fraction(thing), thing)


class Fractions(PlainCase):

    def test_plain_ones(self):
        for top, bottom, wanted in [(0, 1, (0, 1)), (0, 5, (0, 1)), (0, -5, (0, 1)), (6, 4, (3, 2)), (-6, 4, (-3, 2)),
                                    (6, -4, (-3, 2)), (-6, -4, (3, 2)), (5, 1, (5, 1)), (5, -1, (-5, 1)),
                                    (1, 3, (1, 3)), (4, 2, (2, 1)), (7, 7, (1, 1)), (-7, 7, (-1, 1))]:
            self.tells(wanted, fraction, top, bottom)

    def test_lowest_terms_of_any_numbers(self):
        for top in BOTH_SIGNS:
            for bottom in BOTH_SIGNS:
                if bottom != 0:
                    self.tells(plain(Fraction(top, bottom)), fraction, top, bottom)

    def test_long_ones_that_take_many_steps(self):
        self.tells((NEAR, FAR), fraction, NEAR, FAR)
        self.tells((-NEAR, FAR), fraction, NEAR, -FAR)
        self.tells((fibonacci(949), fibonacci(950)), fraction, 21 * fibonacci(949), 21 * fibonacci(950))

    def test_sums_differences_products_and_quotients(self):
        for one in FRACTIONS:
            for other in FRACTIONS[::3]:
                left, right = Fraction(*one), Fraction(*other)
                self.same(plus(one, other), plain(left + right))
                self.same(minus(one, other), plain(left - right))
                self.same(times(one, other), plain(left * right))
                self.assertIs(left < right, less(one, other))
                if right != 0:
                    self.same(over(one, other), plain(left / right))

    def test_plain_sums(self):
        self.tells((5, 6), plus, (1, 2), (1, 3))
        self.tells((1, 1), plus, (1, 2), (1, 2))
        self.tells((0, 1), plus, (1, 2), (-1, 2))
        self.tells((1, 6), minus, (1, 2), (1, 3))
        self.tells((-1, 6), minus, (1, 3), (1, 2))
        self.tells((0, 1), minus, (1, 3), (1, 3))
        self.tells((1, 3), times, (2, 3), (1, 2))
        self.tells((0, 1), times, (0, 1), (-7, 2))
        self.tells((4, 3), over, (2, 3), (1, 2))
        self.tells((-4, 3), over, (2, 3), (-1, 2))
        self.tells((0, 1), over, (0, 1), (-1, 2))

    def test_less(self):
        for one, other, wanted in [((1, 3), (1, 2), True), ((1, 2), (1, 3), False), ((1, 2), (1, 2), False),
                                   ((-1, 2), (-1, 3), True), ((-1, 3), (-1, 2), False), ((0, 1), (0, 1), False),
                                   ((-1, LONG), (0, 1), True), ((0, 1), (1, LONG), True), ((1, LONG), (0, 1), False),
                                   ((LONG, LONG + 1), (LONG + 1, LONG + 2), True), ((2, 3), (3, 5), False)]:
            self.tells(wanted, less, one, other)


class MeanOf(PlainCase):

    def test_plain_means(self):
        for pairs, wanted in [([(3, 1)], (3, 1)), ([(1, 1), (2, 1)], (3, 2)), ([(1, 2), (4, 1)], (2, 1)),
                              ([(5, 0), (1, 3)], (1, 1)), ([(0, 4), (9, 0)], (0, 1)), ([(-1, 1), (2, 1)], (1, 2)),
                              ([(-3, 2), (-3, 2)], (-3, 1)), ([(1, 1), (1, 1), (4, 1)], (2, 1)),
                              ([(LONG, 1), (-LONG, 1)], (0, 1)), ([(7, LONG)], (7, 1)), ([(7, 0), (2, LONG)], (2, 1))]:
            self.tells(wanted, mean_of, pairs)
            self.tells(wanted, mean_of, tuple(pairs))

    def test_many_means(self):
        draw = chance(11)
        for turn in range(200):
            most = draw.choice([3, 12, LONG])
            pairs = [(draw.randint(-most, most), draw.choice([0, draw.randint(0, most)])) for k in range(draw.randint(1, 6))]
            pairs += pairs[:draw.randint(0, 2)]
            weight = sum(lot for number, lot in pairs)
            if weight > 0:
                wanted = plain(Fraction(sum(number * lot for number, lot in pairs), weight))
                self.tells(wanted, mean_of, pairs)
                self.tells(wanted, mean_of, tuple(pairs))

    def test_long_means_that_take_many_steps(self):
        self.tells((NEAR, FAR), mean_of, [(1, NEAR), (0, FAR - NEAR)])


if __name__ == "__main__":
    unittest.main()
