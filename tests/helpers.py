"""What the tests share: a case that asks twice, wrong things of every kind, and random right ones."""

import math
import random
import unittest

LONG = 10 ** 199 + 7
TEXT = "any text"

RULES = ["first", "last", "short", "front", "lastoff", "shortoff", "frontoff", "turns"]
KEEPING = RULES[:4]


def nest(depth, wrap):
    """A thing of so many tuples or lists within one another."""
    thing = 0
    for turn in range(depth):
        thing = wrap(thing)
    return thing


ZOO = [
    0, 1, 2, -1, 7, LONG, -LONG, True, False, None, "", " ", TEXT, "first", "~" * 4000, "0", "()",
    (), [], ((),), ([],), [()], [[]], (((),),), (0,), (1,), (2,), (-1,), (True,), (False,), (None,), ("",),
    (0, 0), (0, 1), (1, 1), (1, 2), (2, 4), (1, 0), (1, -1), (-1, 2), (0, 2), (LONG, 1), (1, LONG), (LONG, LONG),
    (-LONG, 1), (1, -LONG), [0, 1], [1, 2], [1], [(0, 1)], ([0, 1],), (True, 1), (1, True), (False, 1), (0, False),
    (0, True), ("0", 1), (0, "1"), (None, 1), (0, None), (0, 1, 1), (0, 1, False), (0, 1, True), (0, 1, 0),
    (1, 1, 1), (1, None, "first"), [1, None, "first"], (1, 0, "turns"), (1, None), (None, None, "first"),
    ((0, 1),), ((0, 1), (1, 2)), ((0, 1, False),), ((0, 1, True),), [(0, 1, True)], (((0, 1),),), (((0, 1),), ()),
    (((), 1),), ((((0, 1),), 1),), (((), 1), (((0, 1),), 1)), ((((0, 1),), 1), ((), 1)), (((), 1), ((), 1)),
    tuple(range(5000)), list(range(5000)), (0,) * 4998 + (1,), nest(20, lambda thing: (thing,)),
    nest(20, lambda thing: [thing]), ((), [], None, True, "x", (1, [2, (3,)])),
]


def replacements(thing):
    """Other things for the place of one, of every kind."""
    told = [True, False, None, "", "a", "1", 0, 1, 2, -1, LONG, -LONG, (), [], (thing,), [thing], str(thing)[:50]]
    if type(thing) is int:
        told += [thing + 1, thing - 1, -thing, bool(thing)]
    if type(thing) is bool:
        told += [int(thing), not thing]
    if type(thing) is str:
        told += [thing + " ", thing.upper(), thing[:-1], thing[::-1], thing + thing]
    if type(thing) is tuple:
        told += [list(thing), thing[:-1], thing[1:], thing[::-1], thing + (0,), thing + (1,), (0,) + thing, thing + thing]
        told += [thing + thing[-1:], thing[:1] + thing]
    return told


def variants(thing):
    """All that a thing becomes where one place within it, or itself, holds another thing."""
    told = replacements(thing)
    if type(thing) is tuple:
        for at, part in enumerate(thing):
            told += [thing[:at] + (other,) + thing[at + 1:] for other in variants(part)]
    return told


def plain(value):
    """The FRACTION that one of Python's own is."""
    return (value.numerator, value.denominator)


def right_number(thing, least):
    return type(thing) is int and thing >= least


def right_rank(thing):
    return type(thing) is int and thing in (0, 1)


def right_fraction(thing):
    return (type(thing) is tuple and [type(part) for part in thing] == [int, int]
            and thing[1] >= 1 and math.gcd(*thing) == 1)


def right_flow(thing):
    return (type(thing) is tuple and thing != () and {type(lot) for lot in thing} == {int}
            and min(thing) >= 0 and thing[-1] != 0)


def right_comer(thing):
    return type(thing) is tuple and len(thing) == 2 and right_rank(thing[0]) and right_number(thing[1], 1)


def right_beat(thing):
    return type(thing) is tuple and all(map(right_comer, thing))


def right_way(thing):
    return type(thing) is tuple and all(map(right_beat, thing))


def right_beats(thing):
    if type(thing) is not tuple or thing == ():
        return False
    for entry in thing:
        if type(entry) is not tuple or len(entry) != 2 or not right_beat(entry[0]) or not right_number(entry[1], 1):
            return False
    beats = [beat for beat, lot in thing]
    return beats == sorted(set(beats))


def right_house(thing):
    if type(thing) is not tuple or len(thing) != 3 or not right_number(thing[0], 1):
        return False
    return (thing[1] is None or right_number(thing[1], 0)) and type(thing[2]) is str and thing[2] in RULES


def right_person(thing):
    return (type(thing) is tuple and len(thing) == 3 and right_rank(thing[0]) and right_number(thing[1], 1)
            and type(thing[2]) is bool)


def right_stand(house, thing):
    hands, places, rule = house
    if type(thing) is not tuple or not all(map(right_person, thing)):
        return False
    begun = sum(person[2] for person in thing)
    return (places is None or len(thing) <= places) and begun <= (hands if rule in KEEPING else 0)


def spoil(thing):
    """Change a told list, and every list and dict within it."""
    if type(thing) in (list, tuple):
        for part in thing:
            spoil(part)
    if type(thing) is list:
        thing.reverse()
        thing.append("spoiled")
        thing[0] = "spoiled"


class PlainCase(unittest.TestCase):
    """A case for functions over plain things; repr tells True from 1 and a list from a tuple."""

    def same(self, told, wanted):
        self.assertEqual(repr(wanted), repr(told))

    def ask(self, function, *given):
        """Ask three times: what is handed in stays, and what is told hangs on nothing asked or done elsewhere."""
        handed = repr(given)
        first = function(*given)
        told = repr(first)
        second = function(*given)
        self.assertEqual(told, repr(second))
        spoil(second)
        self.assertEqual(told, repr(first))
        self.assertEqual(told, repr(function(*given)))
        self.assertEqual(handed, repr(given))
        return first

    def tells(self, wanted, function, *given):
        self.same(self.ask(function, *given), wanted)

    def looks(self, look, oracle, rights):
        """A look tells True of the right things, and as the oracle does of all others."""
        for right in rights:
            self.assertIs(True, oracle(right), right)
            self.assertIs(True, self.ask(look, right), right)
        for thing in ZOO + [other for right in rights for other in variants(right)]:
            handed = repr(thing)
            told = look(thing)
            self.assertIs(told, oracle(thing), handed[:300])
            self.assertEqual(handed, repr(thing))
            if not told and type(thing) is not list:
                self.assertIs(False, look([thing]))

    def refuses(self, error, fields, function, *given):
        """The call is refused with just this error, which keeps the very fields; nothing is changed."""
        handed = repr(given)
        with self.assertRaises(error) as caught:
            function(*given)
        self.assertIs(error, type(caught.exception))
        for name, thing in fields.items():
            self.assertIs(thing, getattr(caught.exception, name))
        self.assertEqual(handed, repr(given))


def chance(seed):
    """A row of draws that is the same in every run."""
    return random.Random(seed)
