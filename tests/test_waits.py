"""Promises 4, 5 and 44: how long one COMER more waits under "first"."""

import unittest
from fractions import Fraction

from hatchwaits.houses import work_left
from hatchwaits.rows import row_at
from hatchwaits.waits import wait_row
from tests.helpers import PlainCase, chance, plain
from tests.simulation import House, drawn_beat, drawn_beats, drawn_row

NOUGHT, ONE = (0, 1), (1, 1)


def walked_wait(draw, house, stand):
    """In how many beats he waits, None where he is lost; any who come behind him, and any rank and work."""
    told = House(house, stand)
    told.come(((draw.randint(0, 1), draw.randint(1, 6)),))
    newcomer = told.bodies[0]
    if newcomer.lost:
        return None
    while newcomer.gone_at is None:
        told.come(drawn_beat(draw, 2))
        told.work()
    return newcomer.waits


def walked_row(draw, house, row):
    chances = {None: Fraction(0)}
    for stand, share in row:
        waited = walked_wait(draw, house, stand)
        chances[waited] = chances.get(waited, 0) + Fraction(*share)
    lost = plain(chances.pop(None))
    return [plain(Fraction(chances.get(k, 0))) for k in range(max(chances, default=-1) + 1)], lost


def sure(stand):
    return ((stand, ONE),)


class Waits(PlainCase):

    def test_the_empty_house(self):
        for hands in (1, 2, 3):
            for places in (None, 1, 6):
                self.tells(([ONE], NOUGHT), wait_row, (hands, places, "first"), sure(()))

    def test_without_places(self):
        for hands in (1, 2, 3):
            self.tells(([], ONE), wait_row, (hands, 0, "first"), sure(()))

    def test_a_full_house(self):
        stand = ((0, 2, True), (1, 1, False))
        self.tells(([], ONE), wait_row, (1, 2, "first"), sure(stand))
        self.tells(([], ONE), wait_row, (3, 2, "first"), sure(stand))
        self.tells(([NOUGHT, NOUGHT, NOUGHT, ONE], NOUGHT), wait_row, (1, 3, "first"), sure(stand))
        row = (((), (1, 6)), (((0, 1, False),), (1, 3)), (stand, (1, 2)))
        self.tells(([(1, 6), (1, 3)], (1, 2)), wait_row, (1, 2, "first"), row)

    def test_one_hand_waits_for_the_work_ahead(self):
        draw = chance(70)
        for turn in range(40):
            house = (1, None, "first")
            for stand, share in drawn_row(draw, house, most=8):
                self.tells(([NOUGHT] * work_left(stand) + [ONE], NOUGHT), wait_row, house, sure(stand))

    def test_hands_that_are_free(self):
        stand = ((0, 6, False), (1, 3, False))
        for hands, beats in ((1, 9), (2, 3), (3, 0), (4, 0)):
            self.tells(([NOUGHT] * beats + [ONE], NOUGHT), wait_row, (hands, None, "first"), sure(stand))

    def test_begun_ones_are_ahead_wherever_they_stand(self):
        stand = ((0, 5, False), (0, 1, False), (1, 3, True), (0, 2, False))
        # The begun one takes 3 beats of one hand; the other one takes 5.
        self.tells(([NOUGHT] * 5 + [ONE], NOUGHT), wait_row, (2, None, "first"), sure(stand))
        stand = ((0, 1, False), (0, 4, True), (0, 4, True))
        self.tells(([NOUGHT] * 4 + [ONE], NOUGHT), wait_row, (2, None, "first"), sure(stand))
        self.tells(([NOUGHT] * 1 + [ONE], NOUGHT), wait_row, (3, None, "first"), sure(stand))

    def test_many(self):
        draw = chance(71)
        unlike = 0
        for turn in range(300):
            house = (draw.randint(1, 3), draw.choice([None, draw.randint(0, 6)]), "first")
            row = drawn_row(draw, house, most=8)
            wanted = walked_row(draw, house, row)
            self.tells(wanted, wait_row, house, row)
            unlike += len(wanted[0]) > 1 and wanted[1] != NOUGHT
            told, lost = wait_row(house, row)
            self.assertEqual(1, sum(Fraction(*share) for share in told + [lost]))
            self.assertEqual([], [share for share in told[-1:] if share == NOUGHT])
        self.assertGreater(unlike, 10)

    def test_rows_some_beats_on(self):
        draw = chance(72)
        for turn in range(12):
            house = (draw.randint(1, 3), draw.choice([None, 2, 4]), "first")
            row = row_at(house, drawn_beats(draw, 3), (((), ONE),), 4)
            self.tells(walked_row(draw, house, row), wait_row, house, row)

    def test_neither_ranks_nor_order_of_the_begun_turn_it(self):
        one = ((0, 5, True), (1, 2, True), (0, 1, False))
        other = ((0, 1, False), (0, 2, True), (1, 5, True))
        self.same(wait_row((2, None, "first"), sure(one)), wait_row((2, None, "first"), sure(other)))


if __name__ == "__main__":
    unittest.main()
