"""Promise 8: the refusals, and the interface of errors."""

import unittest

from hatchwaits.errors import NoBeat, NoComer, NoHouse, NoPaper, NoRest, NoRow, NoText, TooMany, WaitError

FIELDS = [
    (NoHouse, ["word"]),
    (NoPaper, ["word", "number"]),
    (NoRest, ["word"]),
    (TooMany, ["word"]),
    (NoComer, ["number"]),
    (NoBeat, []),
    (NoText, ["row", "word"]),
    (NoRow, ["row"]),
]

THINGS = ["shape", "", 0, -1, 10 ** 199, True, False, None, (), (1, [2]), [], [[1], "x"], [None, [0]]]


class Refusals(unittest.TestCase):

    def test_each_keeps_the_very_things(self):
        for made, names in FIELDS:
            for thing in THINGS:
                for other in THINGS:
                    given = [thing, other][:len(names)]
                    shown = repr(given)
                    error = made(*given)
                    for name, kept in zip(names, given):
                        self.assertIs(kept, getattr(error, name))
                    self.assertEqual(shown, repr(given))

    def test_a_kept_list_is_no_copy(self):
        for made, names in FIELDS:
            lists = [[position] for position in range(len(names))]
            error = made(*lists)
            for name, given in zip(names, lists):
                given.append("later")
                self.assertEqual(given, getattr(error, name))

    def test_two_of_a_sort_keep_their_own(self):
        for made, names in FIELDS:
            one = made(*["one"] * len(names))
            other = made(*["other"] * len(names))
            for name in names:
                self.assertEqual(("one", "other"), (getattr(one, name), getattr(other, name)))

    def test_each_stands_straight_under_the_base(self):
        self.assertEqual((ValueError,), WaitError.__bases__)
        for made, names in FIELDS:
            self.assertEqual((WaitError,), made.__bases__)

    def test_each_is_caught_by_its_own_class_and_those_above_alone(self):
        above = {WaitError, ValueError, Exception, BaseException, object}
        for made, names in FIELDS:
            self.assertEqual(above | {made}, set(made.__mro__))
            with self.assertRaises(WaitError):
                raise made(*names)
            with self.assertRaises(made):
                raise made(*names)
            for other, more in FIELDS:
                if other is not made:
                    self.assertNotIsInstance(made(*names), other)


if __name__ == "__main__":
    unittest.main()
