"""Promises 6, 8, 48, 49, 50 and 51: SHARE PAPERS told, and standing ROWS."""

import unittest
from fractions import Fraction

from hatchwaits.errors import NoRest, TooMany
from hatchwaits.reach import closed_sets, reached
from hatchwaits.rows import count_row, gone_mean, let_mean, picked_mean, row_at, work_mean
from hatchwaits.sharechecker import lets_shares
from hatchwaits.sharing import share_paper, standing
from tests.helpers import RULES, PlainCase, chance, plain
from tests.papers import share_verdict, solved, standing_shares
from tests.simulation import drawn_beats, drawn_stand, stuck_beats, weighed_beats

NOUGHT, ONE = (0, 1), (1, 1)
CALM = (((), 1),)


def few_stands(house, beats, begin):
    """The stands reached, or None where there are too many."""
    try:
        return reached(house, beats, begin)
    except TooMany:
        return None


def drawn_cases(seed, turns):
    """Houses with few places and houses without bound, each rule, any beginnings; some are refused."""
    draw = chance(seed)
    for turn in range(turns):
        for rule in RULES:
            house = (draw.randint(1, 3), draw.choice([None, 0, 1, 2, 3]), rule)
            yield house, drawn_beats(draw, 3, 2, draw.randint(1, 3), draw.randint(0, 1)), drawn_stand(draw, house, 2)
            house = (1, draw.randint(1, 3), draw.choice(["last", "lastoff", rule]))
            yield house, drawn_beats(draw, 4, 2, draw.randint(1, 2), 2), drawn_stand(draw, house, draw.randint(0, 1))


def told_cases(seed, turns):
    """Those of these that are not refused, each with the stands reached."""
    for house, beats, begin in drawn_cases(seed, turns):
        stands = few_stands(house, beats, begin)
        if stands is not None:
            yield house, beats, begin, stands


class Papers(PlainCase):

    def test_plain_ones(self):
        paper = share_paper((1, 1, "first"), (((), 1), (((0, 3),), 2)), ())
        self.same(paper[:2], ("one", (((), (3, 7)), (((0, 1, True),), (2, 7)), (((0, 2, True),), (2, 7)))))
        for rule in RULES:
            self.tells(("one", (((), ONE),), (None,)), share_paper, (2, None, rule), CALM, ())
            self.tells(("one", (((), ONE), (((0, 1, False),), NOUGHT)), (None, 0)),
                       share_paper, (1, 1, rule), CALM, ((0, 1, False),))
            self.tells(("one", (((), ONE),), (None,)), share_paper, (1, 0, rule), (((), 1), (((0, 3),), 2)), ())
        for rule in ("last", "lastoff"):
            paper = share_paper((1, 2, rule), stuck_beats(), ())
            self.assertEqual("two", paper[0])
            self.assertEqual([(((0, 1, False),),), (((1, 1, False),),)], sorted(paper[1:3]))

    def test_what_is_told_is_let_by(self):
        told = {}
        for house, beats, begin, stands in told_cases(100, 40):
            paper = self.ask(share_paper, house, beats, begin)
            self.assertIs(True, lets_shares(house, beats, begin, paper))
            self.assertIs(True, share_verdict(house, beats, begin, paper))
            self.assertEqual("one" if len(closed_sets(house, beats, begin)) == 1 else "two", paper[0])
            for sort in (house[1] is None, house[2], begin == (), paper[0], len(stands) > 8):
                told[sort] = told.get(sort, 0) + 1
        self.assertEqual({True, False, "one", "two"} | set(RULES), set(told))
        self.assertGreater(min(told.values()), 15, told)

    def test_refused_just_where_reached_is(self):
        told = {True: 0, False: 0}
        for house, beats, begin in drawn_cases(101, 40):
            refused = few_stands(house, beats, begin) is None
            told[refused] += 1
            if refused:
                self.refuses(TooMany, {"word": "stands"}, share_paper, house, beats, begin)
                self.refuses(TooMany, {"word": "stands"}, standing, house, beats, begin)
            else:
                self.assertIn(share_paper(house, beats, begin)[0], ("one", "two"))
        self.assertGreater(min(told.values()), 50)

    def test_just_sixteen(self):
        for rule in RULES:
            begin = ((0, 6, False), (1, 5, False), (1, 4, False))
            for places in (None, 4):
                paper = share_paper((1, places, rule), CALM, begin)
                self.assertEqual(16, len(paper[1]))
                self.assertIs(True, lets_shares((1, places, rule), CALM, begin, paper))
                for more in (begin + ((0, 1, False),), begin[:2] + ((1, 5, False),)):
                    self.refuses(TooMany, {"word": "stands"}, share_paper, (1, places, rule), CALM, more)
                    self.refuses(TooMany, {"word": "stands"}, standing, (1, places, rule), CALM, more)

    def test_long_lots(self):
        lots = (10 ** 60 + 7, 3, 10 ** 59 + 9)
        beats = tuple(zip(((), ((0, 2),), ((1, 3),)), lots))
        for rule in RULES:
            paper = self.ask(share_paper, (2, 1, rule), beats, ())
            self.assertGreater(len(paper[1]), 3)
            self.assertIs(True, lets_shares((2, 1, rule), beats, (), paper))


class Standing(PlainCase):

    def test_plain_ones(self):
        self.tells((((), (3, 7)), (((0, 1, True),), (2, 7)), (((0, 2, True),), (2, 7))),
                   standing, (1, 1, "first"), (((), 1), (((0, 3),), 2)), ())
        for rule in RULES:
            self.tells((((), ONE),), standing, (1, None, rule), CALM, ((0, 2, False), (1, 2, False)))
        self.tells(((((0, 1, False),), ONE),), standing, (1, 2, "last"), stuck_beats(), ((0, 1, False),))

    def test_the_shares_above_nought_alone(self):
        noughts = 0
        for house, beats, begin, stands in told_cases(102, 30):
            if share_paper(house, beats, begin)[0] == "one":
                wanted = [(stand, plain(share)) for stand, share in zip(stands, standing_shares(house, beats, stands))]
                self.tells(tuple(entry for entry in wanted if entry[1] != NOUGHT), standing, house, beats, begin)
                noughts += NOUGHT in [share for stand, share in wanted]
                row = standing(house, beats, begin)
                self.assertEqual(sorted(set(row)), list(row))
                self.assertEqual(1, sum(Fraction(*share) for stand, share in row))
        self.assertGreater(noughts, 20)

    def test_one_beat_on_and_what_goes_in_and_out(self):
        seen = 0
        for house, beats, begin, stands in told_cases(103, 30):
            if share_paper(house, beats, begin)[0] == "one":
                row = standing(house, beats, begin)
                self.same(row_at(house, beats, row, 1), row)
                self.same(row_at(house, beats, row, 3), row)
                self.same(let_mean(house, beats, row), gone_mean(house, beats, row))
                self.same(work_mean(house, beats, row), picked_mean(house, beats, row))
                seen += len(row) > 2
        self.assertGreater(seen, 30)

    def test_the_same_from_each_beginning_that_is_reached(self):
        for house, beats, begin, stands in told_cases(104, 12):
            if share_paper(house, beats, begin)[0] == "one":
                row = standing(house, beats, begin)
                for stand in stands:
                    self.same(standing(house, beats, stand), row)

    def test_two(self):
        refused = 0
        for house, beats, begin, stands in told_cases(105, 30):
            if len(closed_sets(house, beats, begin)) > 1:
                self.refuses(NoRest, {"word": "two"}, standing, house, beats, begin)
                refused += 1
        self.assertGreater(refused, 20)
        for rule in ("last", "lastoff"):
            self.refuses(NoRest, {"word": "two"}, standing, (1, 2, rule), stuck_beats(), ())

    def test_too_many_goes_ahead_of_two(self):
        # Somebody waits for ever, so nothing joins all that is reached; but with these works it is too much.
        house, beats = (1, 3, "last"), stuck_beats((1, 2, 3))
        self.assertIsNone(few_stands(house, beats, ()))
        self.refuses(TooMany, {"word": "stands"}, standing, house, beats, ())

    def test_works_of_1_are_known_by_their_number(self):
        draw = chance(106)
        seen = ranks = 0
        for turn in range(90):
            for rule in RULES:
                hands, places = draw.randint(1, 2), draw.choice([None, 0, 1, 2, 3, 4, 5])
                beats = drawn_beats(draw, 3, 2, 1)
                if turn in range(30):
                    beats = tuple((((0, 1),) * many, draw.randint(1, 12)) for many in range(3) if draw.random() < 0.8) or CALM
                begin = ((1, 1, False),) * draw.randint(0, 1 if places is None else min(places, 1))
                case = ((hands, places, rule), beats, begin)
                if few_stands(*case) is None or share_paper(*case)[0] == "two":
                    continue
                counts = count_row(standing(*case))
                self.same(counts, self.known_by_number(hands, places, beats, len(begin), len(counts)))
                seen += len(counts) > 2
                ranks += len(standing(*case)) > len(counts)
        self.assertGreater(seen, 20)
        self.assertGreater(ranks, 3)

    def known_by_number(self, hands, places, beats, begin, many):
        """The standing shares of a house of which only the number in it is known."""
        numbers = [begin]
        for n in numbers:
            for beat, lot in beats:
                inside = n + len(beat) if places is None else min(n + len(beat), places)
                if max(inside - hands, 0) not in numbers:
                    numbers.append(max(inside - hands, 0))
        rows = []
        for to in numbers:
            row = [Fraction(0)] * len(numbers)
            for at, n in enumerate(numbers):
                for beat, part in weighed_beats(beats):
                    inside = n + len(beat) if places is None else min(n + len(beat), places)
                    if max(inside - hands, 0) == to:
                        row[at] += part
            rows.append([part - (n == to) for part, n in zip(row, numbers)] + [Fraction(0)])
        shares = dict(zip(numbers, solved(rows + [[Fraction(1)] * (len(numbers) + 1)])))
        return [plain(shares.get(n, Fraction(0))) for n in range(many)]


if __name__ == "__main__":
    unittest.main()
