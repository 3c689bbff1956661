"""Promises 2, 4, 6, 8 and 78 to 80: a hatch."""

import unittest

from hatchwaits.comings import many_in
from hatchwaits.errors import NoBeat, NoComer, NoHouse, TooMany
from hatchwaits.hatch import Hatch
from hatchwaits.runs import courses, run
from tests.helpers import LONG, RULES, ZOO, PlainCase, chance, right_house, right_number, variants
from tests.simulation import LONGEST, House, drawn_beat, drawn_house

THREE = ((0, 1), (1, 2), (0, 3))


def house_word(thing):
    """The word of the first refusal that is due, None of a house."""
    if type(thing) is not tuple or len(thing) != 3:
        return "shape"
    hands, places, rule = thing
    if not right_number(hands, 1):
        return "hands"
    if places is not None and not right_number(places, 0):
        return "places"
    return None if type(rule) is str and rule in RULES else "rule"


def told_by_hand(house, way):
    """(what is told of the last beat, the stand, the courses) by persons who keep who they are."""
    led = House(house, ())
    told = None
    for beat in way:
        first = len(led.bodies)
        led.come(beat)
        led.work()
        came = range(first, len(led.bodies))
        told = (tuple(k for k in came if not led.bodies[k].lost), tuple(k for k in came if led.bodies[k].lost),
                tuple(k for k, body in enumerate(led.bodies) if body.gone_at == led.moment))
    return told, led.stand(), [body.course() for body in led.bodies]


class HatchCase(PlainCase):

    def all_of(self, hatch):
        """All that a hatch tells, asked twice."""
        told = [(hatch.house(), hatch.way(), hatch.moment(), hatch.stand(),
                 [hatch.where(number) for number in range(many_in(hatch.way()))]) for turn in (0, 1)]
        self.same(told[1], told[0])
        return told[0]

    def right(self, hatch, house, way):
        """It tells what it has to of a house and a way."""
        wanted = told_by_hand(house, way)
        self.same(self.all_of(hatch), (house, way, len(way), wanted[1], wanted[2]))
        self.same(hatch.stand(), run(house, way, ())[0][-1])
        self.same([hatch.where(k) for k in range(many_in(way))], courses(house, way))
        for number in (-1, many_in(way), many_in(way) + 1, LONG, -LONG):
            self.unchanged(hatch, NoComer, {"number": number}, hatch.where, number)

    def unchanged(self, hatch, error, fields, deed, *given):
        ahead = repr((hatch.house(), hatch.way(), hatch.moment(), hatch.stand()))
        self.refuses(error, fields, deed, *given)
        self.assertEqual(ahead, repr((hatch.house(), hatch.way(), hatch.moment(), hatch.stand())))


class Made(HatchCase):

    def test_of_houses(self):
        for house in [(1, None, "first"), (3, 6, "turns"), (2, 0, "shortoff"), (LONG, LONG, "last"), (LONG, None, "front"),
                      (1, LONG, "short"), (10 ** 12, 0, "frontoff")]:
            hatch = Hatch(house)
            self.right(hatch, house, ())
            self.refuses(NoBeat, {}, hatch.back)

    def test_each_word(self):
        for thing in [None, True, 0, "first", (), [], (1,), (1, None), (1, None, "first", 1), [1, None, "first"],
                      "1 - first", ((1, None, "first"),), ("first", None), (0, -1), [(1, None, "first")]]:
            self.refuses(NoHouse, {"word": "shape"}, Hatch, thing)
        for hands in [0, -1, -LONG, True, False, None, "1", "", (1,), [1], ()]:
            self.refuses(NoHouse, {"word": "hands"}, Hatch, (hands, None, "first"))
            self.refuses(NoHouse, {"word": "hands"}, Hatch, (hands, -1, "first"))
            self.refuses(NoHouse, {"word": "hands"}, Hatch, (hands, True, "none"))
        for places in [-1, -LONG, True, False, "", "-", "0", (), [], (None,), (0,)]:
            self.refuses(NoHouse, {"word": "places"}, Hatch, (1, places, "first"))
            self.refuses(NoHouse, {"word": "places"}, Hatch, (LONG, places, None))
        for rule in ["", "First", "firs", "first ", None, True, 0, 1, ("first",), ["first"], "off", "~" * 4000, LONG]:
            self.refuses(NoHouse, {"word": "rule"}, Hatch, (1, 0, rule))
            self.refuses(NoHouse, {"word": "rule"}, Hatch, (1, None, rule))

    def test_any_thing(self):
        things = list(ZOO)
        for right in [(1, None, "first"), (2, 3, "turns"), (LONG, 0, "lastoff")]:
            things += variants(right)
            for thing in ZOO:
                things += [(thing,) + right[1:], right[:1] + (thing,) + right[2:], right[:2] + (thing,), (thing,) * 3]
        told = {}
        for thing in things:
            word = house_word(thing)
            told[word] = told.get(word, 0) + 1
            self.assertEqual(word is None, right_house(thing))
            if word is None:
                self.right(Hatch(thing), thing, ())
            else:
                self.refuses(NoHouse, {"word": word}, Hatch, thing)
        self.assertGreater(min(told[word] for word in (None, "shape", "hands", "places", "rule")), 5, told)


class Beats(HatchCase):

    def test_by_hand(self):
        hatch = Hatch((1, 2, "first"))
        self.same(hatch.beat(THREE), ((0, 1), (2,), (0,)))
        self.same(hatch.stand(), ((1, 2, False),))
        self.same(hatch.beat(()), ((), (), ()))
        self.same(hatch.beat(((0, 1), (0, 1))), ((3,), (4,), (1,)))
        self.same(hatch.way(), (THREE, (), ((0, 1), (0, 1))))
        self.same(hatch.moment(), 3)
        self.same([hatch.where(k) for k in range(5)],
                  [("gone", 0, 1, 0), ("gone", 0, 3, 1), ("lost", 0), ("in", 2, 1), ("lost", 2)])
        self.same(hatch.back(), ((0, 1), (0, 1)))
        self.same(hatch.where(1), ("in", 0, 1))
        self.same(hatch.beat(((1, 1),)), ((3,), (), (1,)))
        self.same(hatch.where(3), ("in", 2, 1))

    def test_several_are_gone_at_once_by_rising_numbers(self):
        hatch = Hatch((3, None, "turns"))
        self.same(hatch.beat(((0, 2), (0, 2), (0, 1))), ((0, 1, 2), (), (2,)))
        self.same(hatch.beat(((0, 1),)), ((3,), (), (0, 1, 3)))
        hatch = Hatch((2, None, "lastoff"))
        self.same(hatch.beat(((0, 2), (0, 2), (0, 2))), ((0, 1, 2), (), ()))
        self.same(hatch.beat(()), ((), (), (1, 2)))

    def test_houses_of_each_rule(self):
        draw = chance(260)
        for turn in range(12):
            for rule in RULES:
                house = drawn_house(draw, rule)
                hatch, way = Hatch(house), ()
                for k in range(draw.randint(1, 8)):
                    beat = drawn_beat(draw, work=draw.randint(1, 6))
                    way += (beat,)
                    told = hatch.beat(beat)
                    self.same(told, told_by_hand(house, way)[0])
                    self.assertEqual([sorted(part) for part in told], [list(part) for part in told])
                self.right(hatch, house, way)

    def test_works_of_many_figures(self):
        hatch = Hatch((1, None, "short"))
        self.same(hatch.beat(((0, 10 ** 12 - 1), (1, 10 ** 12 - 2))), ((0, 1), (), ()))
        self.same(hatch.stand(), ((0, 10 ** 12 - 1, False), (1, 10 ** 12 - 3, True)))
        self.same(hatch.where(1), ("in", 0, 0))

    def test_too_many_beats(self):
        hatch = Hatch((1, 2, "first"))
        for k in range(24):
            self.same(hatch.beat(((0, 1),) * (k % 3)), hatch_told(hatch))
        way = hatch.way()
        self.same(hatch.moment(), 24)
        for beat in ((), ((0, 1),), THREE, ((0, 1),) * 60):
            self.unchanged(hatch, TooMany, {"word": "beats"}, hatch.beat, beat)
        self.right(hatch, (1, 2, "first"), way)
        self.same(hatch.back(), way[-1])
        self.same(hatch.beat(()), told_by_hand((1, 2, "first"), way[:-1] + ((),))[0])
        self.unchanged(hatch, TooMany, {"word": "beats"}, hatch.beat, ())

    def test_too_many_comers(self):
        hatch = Hatch((3, 6, "front"))
        for k in range(13):
            hatch.beat(THREE)
        self.unchanged(hatch, TooMany, {"word": "comers"}, hatch.beat, THREE)
        self.unchanged(hatch, TooMany, {"word": "comers"}, hatch.beat, THREE[:2])
        hatch.beat(())
        hatch.beat(THREE[:1])
        self.same(many_in(hatch.way()), 40)
        for beat in (THREE[:1], THREE[:2], THREE):
            self.unchanged(hatch, TooMany, {"word": "comers"}, hatch.beat, beat)
        while hatch.moment() < 24:
            hatch.beat(())
        for beat in ((), THREE):
            self.unchanged(hatch, TooMany, {"word": "beats"}, hatch.beat, beat)
        self.right(hatch, (3, 6, "front"), (THREE,) * 13 + ((), THREE[:1]) + ((),) * 9)
        self.unchanged(hatch, TooMany, {"word": "beats"}, hatch.beat, THREE)

    def test_lost_ones_count_too(self):
        hatch = Hatch((1, 0, "last"))
        for k in range(13):
            self.same(hatch.beat(THREE), ((), (3 * k, 3 * k + 1, 3 * k + 2), ()))
        self.same(hatch.beat(THREE[:1]), ((), (39,), ()))
        self.unchanged(hatch, TooMany, {"word": "comers"}, hatch.beat, THREE[:1])
        self.same(hatch.where(39), ("lost", 13))

    def test_the_longest_way(self):
        for rule in RULES:
            hatch, house = Hatch((2, 6, rule)), (2, 6, rule)
            for k, beat in enumerate(LONGEST):
                self.same(hatch.beat(beat), told_by_hand(house, LONGEST[:k + 1])[0])
            self.right(hatch, house, LONGEST)


def hatch_told(hatch):
    return told_by_hand(hatch.house(), hatch.way())[0]


class Back(HatchCase):

    def test_all_is_as_if_it_had_not_been_told(self):
        draw = chance(261)
        for turn in range(60):
            house = drawn_house(draw)
            hatch, ahead = Hatch(house), []
            for k in range(draw.randint(1, 10)):
                ahead.append(repr(self.all_of(hatch)))
                hatch.beat(drawn_beat(draw))
            while ahead:
                last = hatch.way()[-1]
                self.same(hatch.back(), last)
                self.assertEqual(ahead.pop(), repr(self.all_of(hatch)))
            self.unchanged(hatch, NoBeat, {}, hatch.back)

    def test_numbers_are_used_anew(self):
        hatch = Hatch((1, 1, "first"))
        self.same(hatch.beat(THREE), ((0,), (1, 2), (0,)))
        self.same(hatch.beat(((0, 2),)), ((3,), (), ()))
        self.same(hatch.back(), ((0, 2),))
        self.refuses(NoComer, {"number": 3}, hatch.where, 3)
        self.same(hatch.beat(((1, 1), (1, 1))), ((3,), (4,), (3,)))
        self.same(hatch.where(3), ("gone", 1, 2, 0))

    def test_deeds_of_all_sorts(self):
        draw = chance(262)
        refused = 0
        for turn in range(40):
            house = drawn_house(draw)
            hatch, way = Hatch(house), ()
            for k in range(60):
                beat = drawn_beat(draw)
                if draw.random() < 0.3:
                    if way == ():
                        self.unchanged(hatch, NoBeat, {}, hatch.back)
                    else:
                        self.same(hatch.back(), way[-1])
                        way = way[:-1]
                elif len(way) == 24 or many_in(way) + len(beat) > 40:
                    word = "beats" if len(way) == 24 else "comers"
                    self.unchanged(hatch, TooMany, {"word": word}, hatch.beat, beat)
                    refused += 1
                else:
                    way += (beat,)
                    self.same(hatch.beat(beat), told_by_hand(house, way)[0])
                if k % 7 == 0:
                    self.right(hatch, house, way)
        self.assertGreater(refused, 20)


class Where(HatchCase):

    def test_no_such_comer(self):
        hatch = Hatch((2, 2, "first"))
        for number in (0, 1, -1, LONG, -LONG, 39, 40):
            self.refuses(NoComer, {"number": number}, hatch.where, number)
        hatch.beat(THREE)
        for number in (3, 4, -1, -2, -3, LONG, -LONG):
            self.unchanged(hatch, NoComer, {"number": number}, hatch.where, number)
        self.same(hatch.where(2), ("lost", 0))

    def test_each_comer_once(self):
        # Point 6: each COMER is lost, gone, or in the house, once.
        draw = chance(263)
        for turn in range(40):
            hatch, told = Hatch(drawn_house(draw)), {"in": [], "lost": [], "gone": []}
            for k in range(10):
                for word, numbers in zip(("in", "lost", "gone"), hatch.beat(drawn_beat(draw))):
                    told[word] += numbers
            many = many_in(hatch.way())
            self.assertEqual(list(range(many)), sorted(told["in"] + told["lost"]))
            self.assertEqual(len(told["gone"]), len(set(told["gone"])))
            for number in range(many):
                word = hatch.where(number)[0]
                self.assertEqual(number in told["gone"], word == "gone")
                self.assertEqual(number in told["lost"], word == "lost")
            self.assertEqual(len(hatch.stand()), len(told["in"]) - len(told["gone"]))


class Apart(HatchCase):

    def test_two_hatches_of_one_house(self):
        house = (1, 2, "first")
        one, other = Hatch(house), Hatch(house)
        one.beat(THREE)
        self.right(other, house, ())
        other.beat(((1, 4),))
        self.right(one, house, (THREE,))
        self.right(other, house, (((1, 4),),))
        one.back()
        self.right(one, house, ())
        self.right(other, house, (((1, 4),),))

    def test_what_is_told_stays(self):
        hatch = Hatch((1, 2, "first"))
        told = [hatch.beat(THREE), hatch.way(), hatch.stand(), hatch.where(0), hatch.house()]
        ahead = repr(told)
        hatch.beat(())
        hatch.back()
        hatch.back()
        hatch.beat(((0, 5),))
        self.assertEqual(ahead, repr(told))


if __name__ == "__main__":
    unittest.main()
