"""Promises 2, 8, 46, 47 and 48: the checker of SHARE PAPERS."""

import itertools
import unittest
from fractions import Fraction

from hatchwaits.errors import NoPaper
from hatchwaits.sharechecker import lets_shares
from tests.helpers import LONG, RULES, ZOO, PlainCase, chance, nest, plain, right_fraction, variants
from tests.papers import all_from, made_one, made_paper, mutated, numbers_to, share_verdict, smallest_sets
from tests.simulation import drawn_beats, drawn_house, drawn_stand, stuck_beats

NOUGHT, ONE = (0, 1), (1, 1)

# One who is begun, or none: three stands of a house of one place.
SMALL = ((1, 1, "first"), (((), 1), (((0, 3),), 2)), ())
SMALL_PAPER = ("one", (((), (3, 7)), (((0, 1, True),), (2, 7)), (((0, 2, True),), (2, 7))), (None, 0, 1))
# Two come in each beat and the first one of all waits for ever.
STUCK = ((1, 2, "last"), stuck_beats(), ())
STUCK_PAPER = ("two", (((0, 1, False),),), (((1, 1, False),),), (0,), (1,))
WIDE = ((1, 2, "last"), stuck_beats((2,)), ())


def wide_paper():
    begun = ((0, 1, True), (1, 1, True))
    sets = [tuple([((rank, 2, False),)] + [((rank, 2, False), each) for each in begun]) for rank in (0, 1)]
    return ("two", sets[0], sets[1], (0,), (1, 0, 1))


def drawn_cases(seed, turns, most=24):
    """Houses of not too many stands, with right papers."""
    draw = chance(seed)
    for turn in range(turns):
        for rule in RULES:
            house = (draw.randint(1, 2), draw.randint(0, 2), rule)
            beats = drawn_beats(draw, 3, 2, draw.randint(1, 2), draw.randint(0, 2))
            begin, more = drawn_stand(draw, house, 2), drawn_stand(draw, house, 2)
            if turn in range(0, turns, 3):
                # Here the first who come in may wait for ever.
                house, begin, more = (1, 2, draw.choice(["last", "lastoff"])), (), ()
                beats = drawn_beats(draw, 4, 2, draw.randint(1, 2), 2)
            if len(all_from(house, beats, [begin, more])) <= most:
                yield house, beats, begin, made_paper(draw, house, beats, begin, [more])


class CheckerCase(PlainCase):

    def let(self, case, paper):
        self.assertIs(True, self.ask(lets_shares, *case, paper))

    def refused(self, word, number, case, thing):
        handed = repr(thing)
        for turn in range(2):
            with self.assertRaises(NoPaper) as caught:
                lets_shares(*case, thing)
            self.assertIs(NoPaper, type(caught.exception))
            self.same((caught.exception.word, caught.exception.number), (word, number))
            self.assertEqual(handed, repr(thing))

    def as_due(self, case, thing):
        """The checker tells what promise 47 does; told is the word of it."""
        wanted = share_verdict(*case, thing)
        if wanted is True:
            self.assertIs(True, lets_shares(*case, thing), repr(thing)[:300])
            return "right"
        self.refused(*wanted, case, thing)
        return wanted[0]


class RightOnes(CheckerCase):

    def test_plain_ones(self):
        self.let(SMALL, SMALL_PAPER)
        self.let(STUCK, STUCK_PAPER)
        self.let(WIDE, wide_paper())
        for rule in RULES:
            self.let(((1, None, rule), (((), 3),), ()), ("one", (((), ONE),), (None,)))
            self.let(((2, 0, rule), (((), 3), (((0, 1),), 1)), ()), ("one", (((), ONE),), (None,)))

    def test_any_home_and_any_leads(self):
        shares = SMALL_PAPER[1]
        for leads in ((1, None, 1), (1, 0, None), (1, 1, None), (None, 1, 0), (None, 0, 0), (None, 1, 1), (1, None, 0)):
            self.let(SMALL, ("one", shares, leads))

    def test_from_each_beginning(self):
        for stand in ((), ((0, 1, True),), ((0, 2, True),)):
            self.let(SMALL[:2] + (stand,), SMALL_PAPER)

    def test_shares_of_nought(self):
        begin = ((1, 3, False),)
        shares = (((), (3, 7)), (((0, 1, True),), (2, 7)), (((0, 2, True),), (2, 7)),
                  (((1, 1, True),), NOUGHT), (((1, 2, True),), NOUGHT), (begin, NOUGHT))
        self.let(SMALL[:2] + (begin,), ("one", shares, (None, 0, 1, 0, 0, 0)))
        self.let(SMALL, ("one", shares, (None, 0, 1, 0, 1, 0)))

    def test_ways_that_go_on_and_sets_with_lesser_ones_within(self):
        self.let(STUCK, STUCK_PAPER[:3] + ((0, 1, 1, 0) * 200, (1,) * 900))
        self.let(STUCK[:2] + (((0, 1, False),),), ("one", ((((0, 1, False),), ONE),), (None,)))
        house, beats = (1, 3, "last"), stuck_beats()
        bottom = ((0, 1, False), (0, 1, False))
        one = all_from(house, beats, [bottom, ((0, 1, False), (1, 1, False))])
        other = all_from(house, beats, [((1, 1, False), (0, 1, False))])
        self.assertGreater(len(one), 1)
        self.let((house, beats, ()), ("two", tuple(one), tuple(other),
                                      numbers_to(house, beats, (), one), numbers_to(house, beats, (), other)))

    def test_more_than_sixteen_stands(self):
        draw = chance(90)
        for rule in RULES:
            house, beats = (1, 3, rule), (((), 4), (((0, 2),), 2), (((0, 3), (1, 1)), 1))
            paper = made_paper(draw, house, beats, ())
            self.assertGreater(len(paper[1]), 16)
            self.let((house, beats, ()), paper)
            self.let((house, beats, paper[1][-1][0]), paper)
            self.as_due((house, beats, ()), ("one", paper[1], paper[2][::-1]))
        house = (1, 4, "last")
        case = (house, stuck_beats((3,)), ())
        sets = smallest_sets(house, case[1], all_from(house, case[1], [()]))
        self.assertGreater(len(sets), 1)
        whole = [all_from(house, case[1], [((rank, 3, False), (rank, 2, True))]) for rank in (0, 1)]
        self.assertGreater(len(whole[0] + whole[1]), 16)
        self.let(case, ("two", tuple(whole[0]), tuple(whole[1]), (0,), (1,)))

    def test_drawn_ones(self):
        told = {"one": 0, "two": 0, "nought": 0}
        for house, beats, begin, paper in drawn_cases(91, 25):
            self.let((house, beats, begin), paper)
            told[paper[0]] += 1
            told["nought"] += paper[0] == "one" and NOUGHT in [share for stand, share in paper[1]]
        self.assertGreater(min(told.values()), 10, told)


class WrongOnes(CheckerCase):

    def test_shape(self):
        one, shares, leads = SMALL_PAPER
        for thing in [None, True, 1, "one", (), ("one",), ("one", shares), SMALL_PAPER + ((),), ("ones", shares, leads),
                      ("two", shares, leads), list(SMALL_PAPER), ("one", list(shares), leads), ("one", shares, list(leads)),
                      ("one", (), ()), ("one", shares, leads[1:]), ("one", shares[1:], leads), ("one", shares, None),
                      (("one",), shares, leads), (None, shares, leads), ("ONE", shares, leads), (1, shares, leads)]:
            self.refused("shape", -1, SMALL, thing)
        two, first, second, way, more = STUCK_PAPER
        for thing in [STUCK_PAPER[:4], STUCK_PAPER + ((),), ("one",) + STUCK_PAPER[1:], list(STUCK_PAPER),
                      ("two", (), second, way, more), ("two", first, (), way, more), ("two", list(first), second, way, more),
                      ("two", first, second, list(way), more), ("two", first, second, way, 1), ("two",) + ((),) * 4]:
            self.refused("shape", -1, STUCK, thing)

    def test_entries_of_one(self):
        one, shares, leads = SMALL_PAPER
        for k, (stand, share) in enumerate(shares):
            for entry in [None, (), (stand,), (stand, share, 0), [stand, share], (list(stand), share), (stand, list(share)),
                          (stand, (-1, 7)), (stand, (4, 14)), (stand, (True, 1)), (stand, (0, 2)), (stand, (2, -7)),
                          (stand, 1), (stand, None), (((0, 2, False), (0, 3, False)), share), (((0, 1, 1),), share),
                          (((0, True, True),), share), (((False, 1, True),), share), (((2, 1, True),), share),
                          (((0, 0, True),), share), (stand, (2 * LONG, 7 * LONG))]:
                self.refused("entry", k, SMALL, ("one", shares[:k] + (entry,) + shares[k + 1:], leads))
            for lead in [True, False, -1, 2, LONG, -LONG, "0", (), (0,), [0], "", (None,)]:
                self.refused("entry", k, SMALL, ("one", shares, leads[:k] + (lead,) + leads[k + 1:]))
        self.refused("entry", 1, SMALL, ("one", shares[:1] * 2 + shares[2:], leads))
        self.refused("entry", 2, SMALL, ("one", (shares[0], shares[2], shares[1]), leads))
        self.refused("entry", 1, SMALL, ("one", shares[::-1], leads))
        breaking = ((1, 1, "turns"),) + SMALL[1:]
        self.refused("entry", 1, breaking, SMALL_PAPER)

    def test_home(self):
        one, shares, leads = SMALL_PAPER
        for wrong in ((0, 0, 0), (None, None, 0), (None, None, None), (1, 0, 1), (None, 0, None)):
            self.refused("home", -1, SMALL, ("one", shares, wrong))

    def test_begin(self):
        for stand in (((1, 2, True),), ((0, 1, False),), ((0, 3, True),)):
            self.refused("begin", -1, SMALL[:2] + (stand,), SMALL_PAPER)

    def test_closed(self):
        one, shares, leads = SMALL_PAPER
        self.refused("closed", 0, SMALL, ("one", shares[:2], leads[:2]))
        self.refused("closed", 1, SMALL, ("one", shares[:1] + shares[2:], (None, 0)))
        self.refused("closed", 0, SMALL[:2] + (shares[1][0],), ("one", shares[1:], (0, None)))
        more = ((((0, 2, True),), (2, 7)), (((0, 5, True),), NOUGHT))
        self.refused("closed", 3, SMALL, ("one", shares[:2] + more, (None, 0, 1, 0)))

    def test_lead(self):
        house, beats = (1, 1, "first"), ((((0, 1),), 1), (((0, 3),), 2))
        shares = (((), (1, 3)), (((0, 1, True),), (1, 3)), (((0, 2, True),), (1, 3)))
        case = (house, beats, ())
        self.refused("balance", 0, case, ("one", shares, (None, 0, 0)))
        self.refused("lead", 0, case, ("one", shares, (0, None, 0)))
        self.refused("lead", 0, case, ("one", shares, (0, 0, None)))
        case = STUCK[:2] + (((0, 1, False),),)
        shares = ((((0, 1, False),), (1, 2)), (((1, 1, False),), (1, 2)))
        self.refused("lead", 1, case, ("one", shares, (None, 0)))
        self.refused("lead", 0, case, ("one", shares, (1, None)))

    def test_balance_and_sum(self):
        one, shares, leads = SMALL_PAPER
        stands = [stand for stand, share in shares]
        for wrong, k in ((((2, 7), (3, 7), (2, 7)), 0), (((1, 1), (0, 1), (0, 1)), 0), (((3, 7), (2, 7), (1, 7)), 1),
                         (((3, 7), (1, 7), (2, 7)), 0), (((0, 1), (0, 1), (1, 1)), 1), (((0, 1), (0, 1), (LONG, 1)), 1),
                         (((3, 7), (2, 7), (2 * LONG - 1, 7 * LONG)), 1)):
            self.refused("balance", k, SMALL, ("one", tuple(zip(stands, wrong)), leads))
        for factor in (Fraction(0), Fraction(2), Fraction(1, 2), Fraction(LONG, LONG - 1), Fraction(7)):
            scaled = tuple((stand, plain(Fraction(*share) * factor)) for stand, share in shares)
            self.refused("sum", -1, SMALL, ("one", scaled, leads))

    def test_entries_of_two(self):
        two, first, second, way, more = wide_paper()
        for k, stand in enumerate(first + second):
            for entry in [None, 0, [], list(stand), (stand,), stand + (0,), ((0, 2, 0),), ((0, True, False),), "", ((0, 2),),
                          ((0, 2, False),) * 3, ((0, 1, True),) * 2, (list(stand[0]),), ((0, 2, False), (0, 0, False))]:
                stands = (first + second)[:k] + (entry,) + (first + second)[k + 1:]
                self.refused("entry", k, WIDE, ("two", stands[:3], stands[3:], way, more))
        self.refused("entry", 1, WIDE, ("two", first[::-1], second, way, more))
        self.refused("entry", 4, WIDE, ("two", first, second[::-1], way, more))
        self.refused("entry", 4, WIDE, ("two", first, second[:1] * 2 + second[1:], way, more))

    def test_both(self):
        two, first, second, way, more = wide_paper()
        self.refused("both", 0, WIDE, ("two", first, first, way, more))
        self.refused("both", 2, WIDE, ("two", first, first[2:] + second, way, more))
        self.refused("both", 3, WIDE, ("two", first + second, second, way, more))

    def test_closed_of_two(self):
        two, first, second, way, more = wide_paper()
        self.refused("closed", 0, WIDE, ("two", first[:2], second, way, more))
        self.refused("closed", 0, WIDE, ("two", first[1:], second, way, more))
        self.refused("closed", 3, WIDE, ("two", first, second[:2], way, more))
        self.refused("closed", 3, WIDE, ("two", first, second[1:], way, more))
        # One lies beside two in one tuple, but is led into the other tuple.
        self.refused("closed", 0, WIDE, ("two", ((),) + first, second, way, more))
        self.refused("closed", 3, WIDE, ("two", first, ((),) + second, way, more))

    def test_ways(self):
        two, first, second, way, more = STUCK_PAPER
        for wrong in [(), (1,), (True,), (False,), (None,), ("0",), ((0,),), ([0],), (-1,), (2,), (LONG,), (0, 2), (0, None),
                      (0, -1), (1, 0), (0, True)]:
            self.refused("way", 0, STUCK, ("two", first, second, wrong, more))
            self.refused("way", 0, STUCK, ("two", first, second, wrong, wrong))
        for wrong in [(), (0,), (True,), (False,), (None,), ("1",), (-1,), (2,), (LONG,), (1, 2), (1, None), (0, 1)]:
            self.refused("way", 1, STUCK, ("two", first, second, way, wrong))
        inside = STUCK[:2] + (((0, 1, False),),)
        self.refused("way", 1, inside, ("two", first, second, (), more))
        self.refused("way", 0, inside, ("two", second, first, more, ()))

    def test_the_first_that_is_due(self):
        one, shares, leads = SMALL_PAPER
        stands = [stand for stand, share in shares]
        begin = SMALL[:2] + (((1, 2, True),),)
        wrong = tuple((stand, (2, 7)) for stand in stands)
        self.refused("entry", 2, begin, ("one", wrong[:2] + ((stands[2], (2, 4)),), (0, 0, 0)))
        self.refused("home", -1, begin, ("one", wrong[:2], (0, 0)))
        self.refused("begin", -1, begin, ("one", wrong[:2], (None, 0)))
        self.refused("closed", 0, SMALL, ("one", wrong[:2], (0, None)))
        self.refused("balance", 0, SMALL, ("one", wrong, leads))
        two, first, second, way, more = wide_paper()
        self.refused("entry", 2, WIDE, ("two", first[:2] + first[:1], first, (9,), (9,)))
        self.refused("both", 0, WIDE, ("two", first[:2], first, (9,), (9,)))
        self.refused("closed", 0, WIDE, ("two", first[:2], second[:2], (9,), (9,)))
        self.refused("closed", 3, WIDE, ("two", first, second[:2], (9,), (9,)))
        self.refused("way", 0, WIDE, ("two", first, second, (9,), (9,)))


class AnyThing(CheckerCase):

    def test_the_zoo(self):
        for case, paper in ((SMALL, SMALL_PAPER), (STUCK, STUCK_PAPER)):
            for thing in ZOO:
                self.refused("shape", -1, case, thing)
                for whole in (("one", (thing,), (None,)), ("one", (((), ONE),), (thing,)), ("one", thing, thing),
                              ("one", ((thing, ONE),), (None,)), ("one", (((), thing),), (None,)), (thing,) + paper[1:],
                              ("two", (thing,), (thing,), (), ()), ("two", thing, thing, thing, thing),
                              paper[:-1] + (thing,), paper[:-1] + ((thing,),)):
                    self.as_due(case, whole)

    def test_each_place_of_a_paper(self):
        for case, paper in ((SMALL, SMALL_PAPER), (STUCK, STUCK_PAPER), (WIDE, wide_paper())):
            for thing in variants(paper):
                self.as_due(case, thing)

    def test_each_place_of_drawn_papers(self):
        told = {}
        for house, beats, begin, paper in drawn_cases(92, 6, 6):
            for thing in variants(paper):
                word = self.as_due((house, beats, begin), thing)
                told[word] = told.get(word, 0) + 1
        words = ("right", "shape", "entry", "home", "balance", "closed", "way")
        self.assertGreater(min(told.get(word, 0) for word in words), 10, told)

    def test_several_places_at_once(self):
        draw = chance(93)
        told = {}
        for house, beats, begin, paper in drawn_cases(94, 30, 12):
            for turn in range(60):
                thing = paper
                for again in range(draw.randint(1, 4)):
                    thing = mutated(draw, thing)
                word = self.as_due((house, beats, begin), thing)
                told[word] = told.get(word, 0) + 1
        self.assertGreater(min(told.get(word, 0) for word in ("shape", "entry", "way")), 50, told)

    def test_right_kinds_in_wrong_places(self):
        draw = chance(95)
        told = {}
        for house, beats, begin, paper in drawn_cases(96, 40, 12):
            for turn in range(25):
                thing = self.shuffled(draw, house, beats, paper)
                word = self.as_due((house, beats, draw.choice([begin, drawn_stand(draw, house, 2)])), thing)
                told[word] = told.get(word, 0) + 1
        words = ("right", "home", "begin", "closed", "lead", "balance", "sum", "both", "way")
        self.assertGreater(min(told.get(word, 0) for word in words), 10, told)

    def shuffled(self, draw, house, beats, paper):
        """A paper of right kinds that may be no right one."""
        if paper[0] == "two":
            one, other = [tuple(sorted(draw.sample(each, draw.randint(1, len(each))))) for each in paper[1:3]]
            one = draw.choice([one, paper[1], paper[1], tuple(sorted(set(paper[1] + other)))])
            ways = [draw.choice([way, way, tuple(draw.randrange(len(beats)) for k in range(3))]) for way in paper[3:]]
            return ("two", one, draw.choice([other, paper[2], paper[2]])) + tuple(ways)
        shares, leads = paper[1:]
        sort = draw.randrange(6)
        if sort == 0:
            leads = tuple(draw.choice([None, draw.randrange(len(beats))]) for lead in leads)
        elif sort == 1:
            home = draw.randrange(len(leads))
            leads = tuple(None if k == home else draw.randrange(len(beats)) for k in range(len(leads)))
        elif sort == 2:
            factor = Fraction(draw.randint(0, 3), draw.randint(1, 3))
            shares = tuple((stand, plain(Fraction(*share) * factor)) for stand, share in shares)
        elif sort == 3:
            parts = draw.sample([share for stand, share in shares], len(shares))
            shares = tuple((stand, part) for (stand, share), part in zip(shares, parts))
        elif sort == 4 and len(shares) > 1:
            at = draw.randrange(len(shares))
            shares, leads = shares[:at] + shares[at + 1:], leads[:at] + leads[at + 1:]
            leads = leads if None in leads else (None,) + leads[1:]
        return ("one", shares, leads)

    def test_long_things(self):
        case = ((1, None, "turns"), (((), 1),), ())
        stands = [((0, left, False),) for left in (LONG - 2, LONG - 1, LONG)]
        shares = (((), ONE),) + tuple((stand, NOUGHT) for stand in stands)
        self.refused("closed", 1, case, ("one", shares, (None, 0, 0, 0)))
        chain = (((), ONE),) + tuple((((0, left, False),), NOUGHT) for left in range(1, 500))
        self.let(case, ("one", chain, (None,) + (0,) * 499))
        self.refused("lead", 0, case, ("one", chain, (0,) * 499 + (None,)))
        crowd = ((0, 1, False),) * 1200
        self.refused("closed", 0, case[:2] + (crowd,), ("one", ((crowd, ONE),), (None,)))
        self.refused("entry", 0, case, ("one", ((crowd + (0,), ONE),), (None,)))
        self.refused("entry", 0, case, ("one", ((nest(18, lambda thing: (thing,)), ONE),), (None,)))

    def test_long_shares(self):
        # All of them come to one stand, so all their bottoms meet in one sum.
        house, beats, begin = (3, None, "turns"), (((), 1),), ()
        stands = sorted({()} | {tuple((rank, 1, False) for rank in ranks) for many in (1, 2, 3)
                                for ranks in itertools.product((0, 1), repeat=many)})
        shares = tuple((stand, plain(Fraction(LONG - k, LONG + 6 * k + 1))) for k, stand in enumerate(stands))
        self.assertTrue(all(right_fraction(share) for stand, share in shares))
        leads = (None,) + (0,) * (len(stands) - 1)
        self.refused("balance", 0, (house, beats, begin), ("one", shares, leads))
        right = ((stands[0], ONE),) + tuple((stand, NOUGHT) for stand in stands[1:])
        self.let((house, beats, begin), ("one", right, leads))


class NeverBoth(CheckerCase):

    def test_of_one_case_no_papers_of_both_kinds(self):
        # Where two sets are closed, shares of either set balance; but from the other one HOME is not come to.
        for house, beats, begin, paper in drawn_cases(97, 20, 12):
            if paper[0] == "two":
                for home in paper[1] + paper[2]:
                    goal = [stand for each in paper[1:3] if home in each for stand in each]
                    shares = dict(made_one(house, beats, goal, home)[1])
                    stands = all_from(house, beats, [begin])
                    entries = tuple((stand, shares.get(stand, NOUGHT)) for stand in stands)
                    leads = tuple(None if stand == home else 0 for stand in stands)
                    self.assertEqual("lead", self.as_due((house, beats, begin), ("one", entries, leads)))
            else:
                home = [stand for stand, share in paper[1] if share != NOUGHT]
                for way in ((), (0,)):
                    thing = ("two", tuple(home), tuple(home), way, way)
                    self.assertNotEqual("right", self.as_due((house, beats, begin), thing))


if __name__ == "__main__":
    unittest.main()
