"""Promises 2, 6, 8 and 70 to 74: the checker of papers about two houses and one row of beats."""

import unittest

from hatchwaits.errors import NoPaper
from hatchwaits.pairchecker import lets_pairs
from tests.helpers import LONG, RULES, ZOO, PlainCase, chance, nest, variants
from tests.pairs import (
    QUESTIONS, all_pairs, drawn_houses, drawn_pair, drawn_setting, due_of_pairs, led_through, pair_led, parted_by,
    right_pair, shortest_parting, so_at, so_in)
from tests.papers import mutated
from tests.simulation import drawn_beats, drawn_stand

TWO = ((0, 1), (0, 1))
BEATS = (((), 1), (TWO, 1))
ONE, OTHER = (1, 1, "first"), (1, 2, "first")
EMPTY = ((), ())
STAYS = ((), ((0, 1, False),))


class Checker(PlainCase):

    def refused(self, word, number, *given):
        handed = repr(given)
        for turn in range(2):
            with self.assertRaises(NoPaper) as caught:
                lets_pairs(*given)
            self.assertIs(NoPaper, type(caught.exception))
            self.same((caught.exception.word, caught.exception.number), (word, number))
            self.assertEqual(handed, repr(given))

    def let_by(self, *given):
        self.assertIs(True, self.ask(lets_pairs, *given), repr(given)[:600])

    def as_due(self, houses, beats, begin, question, thing):
        """The checker tells what promise 73 does; told is the word of it."""
        wanted = next(due_of_pairs(houses, beats, begin, question, thing), None)
        if wanted is None:
            self.let_by(*houses, beats, begin, question, thing)
            return "right"
        self.refused(*wanted, *houses, beats, begin, question, thing)
        return wanted[0]


class ByHand(Checker):
    """One house that loses the second of two, and one that lets him wait."""

    def kept(self, question, *pairs):
        return (ONE, OTHER, BEATS, EMPTY, question, ("kept", pairs))

    def parted(self, question, *way):
        return (ONE, OTHER, BEATS, EMPTY, question, ("parted", way))

    def test_line(self):
        self.let_by(*self.kept("line", EMPTY, STAYS))
        self.let_by(*self.kept("line", STAYS, EMPTY, STAYS, STAYS, EMPTY))
        self.refused("leads", 0, *self.kept("line", EMPTY))
        self.refused("begin", -1, *self.kept("line", STAYS))
        self.refused("begin", -1, *self.kept("line"))
        for way in ((), (TWO,), ((),), (TWO, ()), (TWO, TWO)):
            self.refused("so", -1, *self.parted("line", *way))

    def test_line_the_other_way_round(self):
        begin, stays = EMPTY, STAYS[::-1]
        self.refused("holds", 1, OTHER, ONE, BEATS, begin, "line", ("kept", (begin, stays)))
        self.refused("leads", 0, OTHER, ONE, BEATS, begin, "line", ("kept", (begin,)))
        self.let_by(OTHER, ONE, BEATS, begin, "line", ("parted", (TWO,)))
        self.let_by(OTHER, ONE, BEATS, stays, "line", ("parted", ()))
        self.refused("so", -1, OTHER, ONE, BEATS, stays, "line", ("parted", ((),)))

    def test_count_and_work(self):
        for question in ("count", "work"):
            self.let_by(*self.parted(question, TWO))
            self.let_by(*self.parted(question, (), TWO))
            self.let_by(*self.parted(question, TWO, TWO))
            self.refused("so", -1, *self.parted(question))
            self.refused("so", -1, *self.parted(question, TWO, ()))
            self.refused("holds", 1, *self.kept(question, EMPTY, STAYS))
            self.refused("holds", 0, *self.kept(question, STAYS, EMPTY))
            self.let_by(ONE, OTHER, BEATS, STAYS, question, ("parted", ()))

    def test_lost(self):
        self.let_by(*self.parted("lost", TWO))
        self.let_by(*self.parted("lost", (), TWO))
        self.refused("so", -1, *self.parted("lost"))
        self.refused("so", -1, *self.parted("lost", ()))
        self.refused("so", -1, *self.parted("lost", TWO, TWO))
        self.refused("so", -1, *self.parted("lost", TWO, ()))
        self.refused("holds", 0, *self.kept("lost", EMPTY, STAYS))
        self.refused("holds", 1, *self.kept("lost", STAYS, EMPTY))

    def test_gone(self):
        self.let_by(*self.parted("gone", TWO, ()))
        self.let_by(*self.parted("gone", TWO, TWO, ()))
        self.refused("so", -1, *self.parted("gone"))
        self.refused("so", -1, *self.parted("gone", TWO))
        self.refused("so", -1, *self.parted("gone", TWO, TWO))
        self.refused("holds", 1, *self.kept("gone", EMPTY, STAYS))
        self.refused("leads", 0, *self.kept("gone", EMPTY))

    def test_lost_and_gone_hold_in_each_beat(self):
        # From STAYS the two are alike in lost by both beats, and unlike in gone by the void one alone.
        for beats in (BEATS[:1], BEATS[1:], BEATS):
            wanted = {"lost": True, "gone": beats == BEATS[1:]}
            for question in ("lost", "gone"):
                self.assertEqual(wanted[question], so_at((ONE, OTHER), beats, STAYS, question))
                pairs = tuple(all_pairs((ONE, OTHER), beats, STAYS))
                self.as_due((ONE, OTHER), beats, STAYS, question, ("kept", pairs))
                self.as_due((ONE, OTHER), beats, STAYS, question, ("kept", pairs[::-1]))

    def test_beats_that_are_none(self):
        for question in QUESTIONS:
            self.refused("beat", 0, *self.parted(question, ((0, 1),)))
            self.refused("beat", 0, *self.parted(question, ((0, 1),), ((0, 2),)))
            self.refused("beat", 2, *self.parted(question, TWO, (), TWO + TWO, ()))
            self.refused("beat", 1, *self.parted(question, TWO, ((0, 1), (1, 1)), TWO))
            self.refused("beat", 3, *self.parted(question, TWO, TWO, TWO, ((0, LONG),)))

    def test_alike_ones(self):
        for question in QUESTIONS:
            for house in (ONE, OTHER, (2, 3, "turns")):
                pairs = all_pairs((house, house), BEATS, EMPTY)
                self.let_by(house, house, BEATS, EMPTY, question, ("kept", tuple(pairs)))
                self.refused("so", -1, house, house, BEATS, EMPTY, question, ("parted", (TWO, (), TWO)))

    def test_lots_are_not_looked_at(self):
        for beats in ((((), 7), (TWO, 1)), (((), 1), (TWO, LONG))):
            self.let_by(ONE, OTHER, beats, EMPTY, "line", ("kept", (EMPTY, STAYS)))
            self.let_by(ONE, OTHER, beats, EMPTY, "gone", ("parted", (TWO, ())))

    def test_houses_without_places(self):
        houses = ((1, None, "first"), (1, None, "shortoff"))
        beats = (((), 1), (((0, 2),), 1))
        for question in ("work", "lost"):
            self.refused("leads", 0, *houses, beats, EMPTY, question, ("kept", (EMPTY,)))
        self.let_by((2, None, "first"), (3, None, "turns"), BEATS, EMPTY, "gone", ("kept", (EMPTY,)))
        self.let_by((1, None, "first"), (2, None, "first"), BEATS, EMPTY, "gone", ("parted", (TWO,)))

    def test_the_first_that_is_due_place_by_place(self):
        unlike = (((0, 1, False),), ())
        # Each pair of these two is wrong by itself: the one doesn't hold, the other leads elsewhere.
        self.refused("leads", 0, *self.kept("count", EMPTY, unlike))
        self.refused("holds", 0, *self.kept("count", unlike, EMPTY))
        self.refused("holds", 0, *self.kept("work", STAYS, EMPTY, unlike))
        self.refused("begin", -1, *self.kept("count", unlike, unlike))
        self.refused("shape", -1, *self.kept("count", unlike, None))
        self.refused("holds", 1, *self.kept("line", EMPTY, unlike, STAYS))
        self.refused("leads", 2, ONE, OTHER, BEATS, EMPTY, "line", ("kept", (EMPTY, STAYS, ((), ((0, 3, False),)))))

    def test_stands_of_the_one_and_not_of_the_other(self):
        one, other = (2, 2, "first"), (1, 3, "turns")
        begun, long_one = ((0, 1, True),), ((0, 1, False),) * 3
        right = ((((0, 1, True), (0, 1, True)), long_one), (begun, ()), ((), long_one))
        wrong = [((), begun), (long_one, ()), (begun, begun), (long_one, long_one),
                 (((0, 1, True),) * 3, ()), ((), ((0, 1, False),) * 4)]
        for pair in right:
            self.assertTrue(right_pair((one, other), pair))
            self.as_due((one, other), BEATS, pair, "line", ("kept", (pair,)))
            self.refused("shape", -1, other, one, BEATS, EMPTY, "line", ("kept", (EMPTY, pair)))
        for pair in wrong:
            self.refused("shape", -1, one, other, BEATS, EMPTY, "line", ("kept", (EMPTY, pair)))
            self.refused("shape", -1, one, other, BEATS, EMPTY, "line", ("kept", (pair, EMPTY)))

    def test_shape(self):
        kept, parted = ("kept", (EMPTY, STAYS)), ("parted", (TWO,))
        for thing in [None, True, 0, 1, "kept", "parted", (), [], ("kept",), ("parted",), list(kept), list(parted),
                      ("kept", [EMPTY, STAYS]), ("parted", [TWO]), ("kept", list(EMPTY)), kept + ((),), parted + ((),),
                      ("kept", None), ("parted", None), ("Kept", kept[1]), ("kept ", kept[1]), ("part", parted[1]),
                      (["kept"], kept[1]), (None, kept[1]), (True, ()), (kept[1], "kept"), ("kept", EMPTY),
                      ("parted", TWO), ("parted", (TWO, None)), ("parted", ([],)), ("parted", ((TWO,),)),
                      ("parted", (((True, 1), (False, 1)),)), ("parted", (((0, 1), (0, True)),)), ("parted", (((0, 0),),)),
                      ("kept", parted[1]), ("parted", kept[1]), ("kept", ((EMPTY,),)), ("kept", (EMPTY, list(STAYS)))]:
            for question in QUESTIONS:
                self.refused("shape", -1, ONE, OTHER, BEATS, EMPTY, question, thing)

    def test_true_is_no_one(self):
        houses = ((1, 2, "first"), (1, 2, "first"))
        for person in [(False, 1, False), (True, 1, False), (0, True, False), (0, 1, 0), (0, 1, 1), (0, 1, None),
                       (0, 1, "False"), [0, 1, False], (0, 1), (0, 0, False), (2, 1, False), (0, -1, True)]:
            for pair in (((person,), ()), ((), (person,)), (((0, 1, False), person), ())):
                self.refused("shape", -1, *houses, BEATS, EMPTY, "line", ("kept", (EMPTY, pair)))
                self.refused("shape", -1, *houses, BEATS, EMPTY, "line", ("kept", (pair,)))


class Drawn(Checker):

    def test_right_papers(self):
        draw = chance(210)
        told = {}
        for turn in range(250):
            houses, beats, begin, pairs = drawn_setting(draw)
            for question in QUESTIONS:
                some = pairs + [draw.choice(pairs) for again in range(draw.randint(0, 4))]
                draw.shuffle(some)
                holds = all(so_at(houses, beats, pair, question) for pair in pairs)
                word = self.as_due(houses, beats, begin, question, ("kept", tuple(some)))
                self.assertEqual("right" if holds else "holds", word)
                told[question, word] = told.get((question, word), 0) + 1
                way = shortest_parting(houses, beats, begin, question)
                if way is not None:
                    self.assertEqual("right", self.as_due(houses, beats, begin, question, ("parted", way)))
                    self.assertFalse(holds)
        self.assertEqual(10, len(told), told)
        self.assertGreater(min(told.values()), 30, told)

    def test_wider_kept_papers(self):
        draw = chance(211)
        wider = 0
        for turn in range(120):
            houses, beats, begin, pairs = drawn_setting(draw, 40)
            more = all_pairs(houses, beats, drawn_pair(draw, houses), 40)
            if more is None:
                continue
            for question in QUESTIONS:
                word = self.as_due(houses, beats, begin, question, ("kept", tuple(pairs + more)))
                wider += word == "right" and len(set(pairs + more)) > len(pairs)
                self.as_due(houses, beats, begin, question, ("kept", tuple(more)))
        self.assertGreater(wider, 10)

    def test_each_pair_left_out(self):
        draw = chance(212)
        told = {}
        for turn in range(60):
            houses, beats, begin, pairs = drawn_setting(draw, 12)
            for question in QUESTIONS:
                for k in range(len(pairs)):
                    word = self.as_due(houses, beats, begin, question, ("kept", tuple(pairs[:k] + pairs[k + 1:])))
                    told[word] = told.get(word, 0) + 1
                    self.assertNotEqual("right", word)
        self.assertGreater(min(told.get(word, 0) for word in ("begin", "holds", "leads")), 20, told)

    def test_drawn_ways(self):
        draw = chance(213)
        told = {}
        for turn in range(150):
            houses, beats, begin, pairs = drawn_setting(draw)
            for question in QUESTIONS:
                for longest in (0, 1, 3, 8):
                    way = tuple(draw.choice(beats)[0] for k in range(longest))
                    word = self.as_due(houses, beats, begin, question, ("parted", way))
                    told[question, word] = told.get((question, word), 0) + 1
                    odd = way + (((1, 7),),) + way
                    self.refused("beat", len(way), *houses, beats, begin, question, ("parted", odd))
        self.assertEqual(10, len(told), told)
        self.assertGreater(min(told.values()), 20, told)

    def test_each_place_of_a_paper(self):
        draw = chance(214)
        told = {}
        for turn in range(12):
            houses, beats, begin, pairs = drawn_setting(draw, 5)
            for question in QUESTIONS[turn % 5:][:2]:
                way = shortest_parting(houses, beats, begin, question) or (beats[0][0], beats[-1][0])
                for right in (("kept", tuple(pairs)), ("parted", way)):
                    for thing in variants(right):
                        word = self.as_due(houses, beats, begin, question, thing)
                        told[word] = told.get(word, 0) + 1
        for word in ("right", "shape", "begin", "holds", "leads", "beat", "so"):
            self.assertGreater(told.get(word, 0), 5, told)

    def test_several_places_at_once(self):
        draw = chance(215)
        for turn in range(150):
            houses, beats, begin, pairs = drawn_setting(draw, 8)
            question = draw.choice(QUESTIONS)
            for right in (("kept", tuple(pairs)), ("parted", tuple(beat for beat, lot in beats))):
                for again in range(6):
                    thing = right
                    for once_more in range(draw.randint(1, 3)):
                        thing = mutated(draw, thing)
                    self.as_due(houses, beats, begin, question, thing)

    def test_the_zoo(self):
        for thing in ZOO + [nest(20, lambda part: (part,)), nest(20, lambda part: [part])]:
            for whole in (thing, ("kept", thing), ("parted", thing), ("kept", (thing,)), ("parted", (thing,)), (thing,),
                          ("kept", (EMPTY, thing)), ("kept", (EMPTY, (thing, ()))), ("kept", (EMPTY, ((), thing))),
                          ("kept", (EMPTY, ((thing,), ()))), ("parted", ((thing,),)), ("parted", (TWO, thing)),
                          (thing, ()), (thing, (EMPTY, STAYS)), ("kept", (EMPTY, STAYS), thing), ("other", thing)):
                self.as_due((ONE, OTHER), BEATS, EMPTY, "line", whole)
                self.as_due((OTHER, ONE), BEATS, EMPTY, "gone", whole)

    def test_long_numbers(self):
        house = (1, 2, "short")
        pair = (((0, LONG, False),), ((1, LONG, True),))
        for question in QUESTIONS:
            self.as_due((house, house), BEATS, EMPTY, question, ("kept", (EMPTY, pair)))
            self.as_due((house, house), BEATS, pair, question, ("kept", (pair,)))
        self.refused("so", -1, house, house, ((((0, LONG),), 1),), EMPTY, "work", ("parted", (((0, LONG),),)))

    def test_four_hundred_pairs_and_beats(self):
        houses = ((1, 6, "first"), (1, 6, "last"))
        beats = (((), 1), (((0, 1), (1, 2)), 2), (((1, 1),), 1))
        pairs = all_pairs(houses, beats, EMPTY, 10 ** 4)
        self.assertGreater(len(pairs), 300)
        self.as_due(houses, beats, EMPTY, "work", ("kept", tuple(pairs[:400])))
        self.let_by(*houses, BEATS, EMPTY, "work", ("kept", tuple(all_pairs(houses, BEATS, EMPTY)) * 40))
        self.refused("so", -1, *houses, BEATS, EMPTY, "work", ("parted", (TWO, ()) * 200))
        self.let_by(ONE, OTHER, BEATS, EMPTY, "count", ("parted", (TWO,) * 400))
        self.refused("beat", 399, ONE, OTHER, BEATS, EMPTY, "count", ("parted", (TWO,) * 399 + (((0, 9),),)))


class Promise(Checker):
    """Point 74: what is let by is so, whoever wrote it."""

    def test_what_is_kept_holds_on_every_way(self):
        draw = chance(216)
        tried = 0
        for turn in range(150):
            houses, beats, begin, pairs = drawn_setting(draw, 40)
            for question in QUESTIONS:
                if not all(so_at(houses, beats, pair, question) for pair in pairs):
                    continue
                self.let_by(*houses, beats, begin, question, ("kept", tuple(pairs)))
                tried += 1
                pair = draw.choice(pairs)
                for again in range(12):
                    beat = draw.choice(beats)[0]
                    self.assertTrue(so_at(houses, beats, pair, question))
                    if question in ("lost", "gone"):
                        self.assertTrue(so_in(houses, pair, beat, question))
                    pair = pair_led(houses, pair, beat)
        self.assertGreater(tried, 100)

    def test_never_both(self):
        draw = chance(217)
        told = {True: 0, False: 0}
        for turn in range(120):
            houses, beats, begin, pairs = drawn_setting(draw, 25)
            for question in QUESTIONS:
                kept = self.as_due(houses, beats, begin, question, ("kept", tuple(pairs))) == "right"
                told[kept] += 1
                for again in range(20):
                    way = tuple(draw.choice(beats)[0] for k in range(draw.randint(0, 9)))
                    parted = self.as_due(houses, beats, begin, question, ("parted", way)) == "right"
                    self.assertEqual(parted, parted_by(houses, begin, question, way))
                    self.assertFalse(kept and parted)
        self.assertGreater(min(told.values()), 50)

    def test_works_of_one_more_places_and_more_hands(self):
        # Point 6: more places never have fewer in, more hands never more in, whatever rules.
        draw = chance(218)
        for turn in range(60):
            hands, places = draw.randint(1, 3), draw.randint(0, 3)
            beats = drawn_beats(draw, 3, 3, 1)
            one, wider = (hands, places, draw.choice(RULES)), (hands, places + draw.randint(0, 2), draw.choice(RULES))
            quicker = (hands + 1, places, draw.choice(RULES))
            for less, more in ((one, wider), (quicker, one)):
                pairs = all_pairs((less, more), beats, EMPTY, 400)
                if pairs is not None:
                    self.let_by(less, more, beats, EMPTY, "line", ("kept", tuple(pairs)))

    def test_one_hand_no_bound_has_the_same_work(self):
        draw = chance(219)
        for turn in range(40):
            houses = ((1, None, draw.choice(RULES)), (1, None, draw.choice(RULES)))
            beats = drawn_beats(draw, 3, 2, 3)
            for again in range(10):
                way = tuple(draw.choice(beats)[0] for k in range(draw.randint(0, 6)))
                self.assertTrue(so_at(houses, beats, led_through(houses, EMPTY, way), "work"))
                self.refused("so", -1, *houses, beats, EMPTY, "work", ("parted", way))

    def test_what_may_be_any_house(self):
        draw = chance(220)
        for turn in range(100):
            houses = drawn_houses(draw, 6)
            beats = drawn_beats(draw)
            begin = tuple(drawn_stand(draw, house) for house in houses)
            for question in QUESTIONS:
                pairs = tuple(drawn_pair(draw, houses, 6) for k in range(draw.randint(0, 4)))
                self.as_due(houses, beats, begin, question, ("kept", (begin,) + pairs))
                self.as_due(houses, beats, begin, question, ("kept", pairs + (begin,)))
                self.as_due(houses, beats, begin, question, ("parted", tuple(beat for beat, lot in beats)))


if __name__ == "__main__":
    unittest.main()
