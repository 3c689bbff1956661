"""Promises 2, 8, 81 and 82: a desk."""

import re
import unittest

from hatchwaits.desk import Desk
from hatchwaits.errors import NoBeat, NoComer, NoRow, TooMany
from hatchwaits.pairchecker import lets_pairs
from hatchwaits.readings import read_way
from tests.helpers import RULES, PlainCase, chance
from tests.pairs import QUESTIONS, all_pairs, so_at
from tests.simulation import LONGEST, drawn_beat, drawn_house
from tests.test_hatch import told_by_hand
from tests.wordings import (
    BEAT, FROM_ONE, SIGNS, changed_texts, drawn_text, written_beat, written_house, written_stand, written_way)

NUMBER = f"(0|{FROM_ONE})"
HOUSE = f"{FROM_ONE} (-|{NUMBER}) ({'|'.join(RULES)})"
BARE = ["house", "way", "stand", "moment", "line", "work", "back"]
ROWS = "|".join(BARE) + f"|house {HOUSE}|beat ({BEAT})|where {NUMBER}|alike {HOUSE} ({'|'.join(QUESTIONS)})"

RIGHT_ROWS = BARE + ["house 2 6 first", "house 1 - turns", "beat 0:3,1:2", "beat -", "where 0", "where 10",
                     "alike 1 2 last count", "alike 3 - front lost"]


def joined(numbers):
    return " ".join(map(str, numbers)) or "-"


class Told:
    """What a desk has to answer, by persons who keep who they are."""

    def __init__(self):
        self.house, self.way = None, ()

    def answer(self, row):
        """A text, an error with its fields, or ("alike", house, question)."""
        words = row.split(" ")
        if not re.fullmatch(ROWS, row):
            return (NoRow, {"row": row})
        if words[0] == "house" and len(words) > 1:
            self.house = (int(words[1]), None if words[2] == "-" else int(words[2]), words[3])
            self.way = ()
            return "ok"
        if self.house is None or (words[0] == "alike" and self.way == ()):
            return (NoRow, {"row": row})
        return getattr(self, words[0] + "_row")(*words[1:])

    def house_row(self):
        return written_house(self.house)

    def way_row(self):
        return written_way(self.way)

    def stand_row(self):
        return written_stand(told_by_hand(self.house, self.way)[1])

    def moment_row(self):
        return str(len(self.way))

    def line_row(self):
        return str(len(told_by_hand(self.house, self.way)[1]))

    def work_row(self):
        return str(sum(person[1] for person in told_by_hand(self.house, self.way)[1]))

    def back_row(self):
        if self.way == ():
            return (NoBeat, {})
        self.way, beat = self.way[:-1], self.way[-1]
        return written_beat(beat)

    def beat_row(self, word):
        beat = read_way(word)[0]
        if len(self.way) == 24:
            return (TooMany, {"word": "beats"})
        if sum(map(len, self.way)) + len(beat) > 40:
            return (TooMany, {"word": "comers"})
        self.way += (beat,)
        entered, lost, gone = map(joined, told_by_hand(self.house, self.way)[0])
        return f"in {entered}; lost {lost}; gone {gone}"

    def where_row(self, word):
        courses = told_by_hand(self.house, self.way)[2]
        if int(word) >= len(courses):
            return (NoComer, {"number": int(word)})
        return " ".join(map(str, courses[int(word)]))

    def alike_row(self, hands, places, rule, question):
        return ("alike", (int(hands), None if places == "-" else int(places), rule), question)


class DeskCase(PlainCase):

    def shown(self, desk):
        """All that a desk tells of its hatch, None where there is none."""
        try:
            return [desk.say(row) for row in ("house", "way", "stand", "moment", "line", "work")]
        except NoRow:
            return None

    def refused(self, desk, error, fields, row):
        ahead = self.shown(desk)
        with self.assertRaises(error) as caught:
            desk.say(row)
        self.assertIs(error, type(caught.exception))
        for name, value in fields.items():
            self.same(getattr(caught.exception, name), value)
        if error is NoRow:
            self.assertIs(row, caught.exception.row)
        self.assertEqual(ahead, self.shown(desk))

    def no_rows(self, desk, rows):
        for row in rows:
            self.refused(desk, NoRow, {"row": row}, row)

    def says(self, desk, *rows_and_answers):
        for row, answer in zip(rows_and_answers[::2], rows_and_answers[1::2]):
            self.same(desk.say(row), answer)

    def alike(self, desk, told, house, question):
        """The answer to alike is right; told is its word."""
        row = f"alike {written_house(house)} {question}"
        beats = tuple((beat, 1) for beat in sorted(set(told.way)))
        pairs = all_pairs((told.house, house), beats, ((), ()))
        if pairs is None:
            self.refused(desk, TooMany, {"word": "pairs"}, row)
            return "refused"
        ahead = self.shown(desk)
        answer = desk.say(row)
        self.assertIs(str, type(answer))
        self.assertEqual(ahead, self.shown(desk))
        word, blank, rest = answer.partition(" ")
        if all(so_at((told.house, house), beats, pair, question) for pair in pairs):
            self.same(answer, f"kept {len(pairs)}")
            return "kept"
        self.assertEqual("parted", word)
        way = read_way(rest)
        self.same(written_way(way), rest)
        self.assertIs(True, lets_pairs(told.house, house, beats, ((), ()), question, ("parted", way)))
        return "parted"

    def as_told(self, desk, told, row):
        """The desk answers as it has to; told is what it answered."""
        wanted = told.answer(row)
        if type(wanted) is str:
            self.same(desk.say(row), wanted)
            return wanted
        if wanted[0] == "alike":
            return self.alike(desk, told, *wanted[1:])
        self.refused(desk, *wanted, row)
        return wanted[0]


class Rows(DeskCase):

    def test_by_hand(self):
        self.says(Desk(), "house 1 2 first", "ok", "house", "1 2 first", "way", "none", "stand", "-", "moment", "0",
                  "line", "0", "work", "0",
                  "beat 0:2,1:3,0:1", "in 0 1; lost 2; gone -", "stand", "0:1* 1:3", "line", "2", "work", "4", "moment", "1",
                  "beat -", "in -; lost -; gone 0", "beat 0:1,1:1", "in 3; lost 4; gone -", "way", "0:2,1:3,0:1 - 0:1,1:1",
                  "where 0", "gone 0 2 0", "where 1", "in 0 2", "where 2", "lost 0", "where 3", "in 2 1",
                  "back", "0:1,1:1", "back", "-", "where 0", "in 0 0", "beat -", "in -; lost -; gone 0")

    def test_the_examples(self):
        desk = Desk()
        self.says(desk, "house 1 - lastoff", "ok", "beat 0:2", "in 0; lost -; gone -", "beat 1:2", "in 1; lost -; gone -",
                  "beat -", "in -; lost -; gone 1", "beat -", "in -; lost -; gone 0", "where 0", "gone 0 4 2")
        desk = Desk()
        self.says(desk, "house 2 2 lastoff", "ok", "beat 0:1,0:2,1:1", "in 0 1; lost 2; gone 0")

    def test_houses(self):
        desk = Desk()
        for rule in RULES:
            self.says(desk, f"house 3 0 {rule}", "ok", "house", f"3 0 {rule}", "beat 0:1", "in -; lost 0; gone -")
        self.says(desk, "house 999999999999 999999999999 front", "ok", "house", "999999999999 999999999999 front",
                  "stand", "-", "line", "0")

    def test_a_house_again_makes_a_new_hatch(self):
        desk = Desk()
        self.says(desk, "house 1 2 first", "ok", "beat 0:3,0:3,0:3", "in 0 1; lost 2; gone -", "house 1 2 first", "ok",
                  "way", "none", "stand", "-", "beat 0:1", "in 0; lost -; gone 0", "house 2 - turns", "ok", "house",
                  "2 - turns", "moment", "0")
        self.refused(desk, NoComer, {"number": 0}, "where 0")

    def test_works_of_twelve_figures(self):
        desk = Desk()
        self.says(desk, "house 1 - first", "ok", "beat 0:999999999999,1:999999999999", "in 0 1; lost -; gone -",
                  "work", "1999999999997", "stand", "0:999999999998* 1:999999999999", "back", "0:999999999999,1:999999999999",
                  "work", "0")
        self.no_rows(desk, ["beat 0:1000000000000", "beat 0:0999999999999", "where 1000000000000"])
        self.refused(desk, NoComer, {"number": 999999999999}, "where 999999999999")

    def test_two_desks_stay_apart(self):
        one, other = Desk(), Desk()
        self.says(one, "house 1 1 first", "ok", "beat 0:2", "in 0; lost -; gone -")
        self.no_rows(other, ["house", "stand"])
        self.says(other, "house 1 1 first", "ok", "way", "none")
        self.says(one, "way", "0:2")


class NoRows(DeskCase):

    def test_no_hatch_yet(self):
        desk = Desk()
        self.no_rows(desk, BARE + ["beat 0:1", "beat -", "where 0", "alike 1 2 first line", "", " ", "house ", "x"])
        self.no_rows(desk, ["house 0 2 first", "house 1 2 fifth", "house 1 2"])
        self.says(desk, "house 1 2 first", "ok")
        self.says(desk, "house", "1 2 first")

    def test_rows_that_are_none(self):
        desk = Desk()
        self.says(desk, "house 1 2 first", "ok", "beat 0:2", "in 0; lost -; gone -")
        self.no_rows(desk, [
            "", " ", "  ", "x", "House", "houses", "house ", " house", "house  1 2 first", "house 1 2 first ",
            " house 1 2 first", "house 1  2 first", "house 1 2", "house 1", "house 1 2 first 3", "house 0 2 first",
            "house 01 2 first", "house -1 2 first", "house 1 -1 first", "house 1 02 first", "house 1 none first",
            "house 1 2 First", "house - 2 first", "house 1000000000000 2 first", "house house", "house 1 2 first line",
            "way ", "way none", "way 0:1", "stand -", "moment 0", "moments", "line 1", "work 0", "back 0:2", "back back",
            "beat", "beat ", "beat  0:1", "beat 0:1 ", "beat 0:1 0:1", "beat none", "beat 0:0", "beat 2:1", "beat 0:1,",
            "beat ,0:1", "beat 0:1*", "beat 0:01", "beat +", "beat 0", "beat 0:1;1:1", "beat - -",
            "where", "where ", "where -", "where -1", "where +1", "where 01", "where 00", "where 0 0", "where x",
            "where 0:1", "where  0", "where 0 ", "Where 0", "where none",
            "alike", "alike ", "alike 1 2 first", "alike line", "alike 1 2 first lines", "alike 1 2 first Line",
            "alike 1 2 first line ", "alike  1 2 first line", "alike 1 2 first  line", "alike 1 2 line first",
            "alike 0 2 first line", "alike 1 2 fifth line", "alike 1 - - line", "alike 1 2 first line count",
            "alike 1 2 first -", "alike line 1 2 first", "alike 1 2 first in", "alike 1 2 3 4", "ok", "kept", "in",
            "lost 0", "gone 0", "line line", "work work", "count", "in 0", "none", "-", "0:1", "*", "/", "~" * 4000])

    def test_signs_put_in_and_left_out(self):
        draw = chance(270)
        read = 0
        for right in RIGHT_ROWS:
            desk, told = Desk(), Told()
            for row in ("house 1 2 first", "beat 0:2,1:1"):
                self.as_told(desk, told, row)
            for row in changed_texts(right):
                if draw.random() < 0.5:
                    read += self.as_told(desk, told, row) is not NoRow
                    if told.way == ():
                        self.as_told(desk, told, "beat 0:2,1:1")
        self.assertGreater(read, 50)

    def test_any_text(self):
        draw = chance(271)
        desk, told = Desk(), Told()
        for ahead in ([], ["house 1 2 first"], ["beat 0:1", "beat -"]):
            for row in ahead:
                self.as_told(desk, told, row)
            for turn in range(400):
                self.as_told(desk, told, drawn_text(draw, SIGNS))
                self.as_told(desk, told, " ".join(draw.choice(
                    ["house", "beat", "where", "alike", "1", "0", "2", "-", "first", "turns", "line", "lost", "0:1", "back"])
                    for k in range(draw.randint(1, 5))))
            for sign in SIGNS:
                self.as_told(desk, told, sign)

    def test_ahead_of_all_else(self):
        desk = Desk()
        self.says(desk, "house 1 1 first", "ok")
        self.no_rows(desk, ["alike 1 2 first line", "alike 1 1 first gone"])
        self.refused(desk, NoBeat, {}, "back")
        self.no_rows(desk, ["back ", "back -"])
        for k in range(24):
            desk.say("beat 0:1")
        self.refused(desk, TooMany, {"word": "beats"}, "beat 0:1")
        self.no_rows(desk, ["beat 0:0", "beat 0:1,", "beat"])
        self.no_rows(desk, ["where 040", "where -1", "where"])
        self.refused(desk, NoComer, {"number": 40}, "where 40")


class Refused(DeskCase):

    def test_too_many_comers_and_beats(self):
        desk = Desk()
        self.says(desk, "house 3 6 turns", "ok")
        for k in range(13):
            desk.say("beat 0:1,0:2,1:3")
        self.refused(desk, TooMany, {"word": "comers"}, "beat 0:1,0:2,1:3")
        self.refused(desk, TooMany, {"word": "comers"}, "beat 0:1,0:2")
        desk.say("beat 1:1")
        self.refused(desk, TooMany, {"word": "comers"}, "beat 0:1")
        for k in range(10):
            desk.say("beat -")
        self.refused(desk, TooMany, {"word": "beats"}, "beat 0:1,0:1,0:1")
        self.refused(desk, TooMany, {"word": "beats"}, "beat -")
        self.refused(desk, NoComer, {"number": 40}, "where 40")
        self.says(desk, "moment", "24", "back", "-", "beat -", "in -; lost -; gone -")

    def test_nothing_to_take_back(self):
        desk = Desk()
        self.says(desk, "house 3 6 turns", "ok")
        self.refused(desk, NoBeat, {}, "back")
        self.says(desk, "beat -", "in -; lost -; gone -", "back", "-")
        self.refused(desk, NoBeat, {}, "back")


class Talks(DeskCase):

    def test_talks_of_all_sorts(self):
        draw = chance(272)
        seen = {}
        for turn in range(60):
            desk, told = Desk(), Told()
            for k in range(40):
                row = draw.choice(
                    ["beat " + written_beat(drawn_beat(draw)) for again in range(8)]
                    + ["back", "back", "way", "stand", "moment", "line", "work", "house", f"where {draw.randint(0, 12)}",
                       f"where {draw.randint(0, 4)}"] + ["house " + written_house(drawn_house(draw))] * (1 if k else 40))
                answer = self.as_told(desk, told, row)
                name = row.split(" ")[0], answer if type(answer) is type else "told"
                seen[name] = seen.get(name, 0) + 1
        for word in ("house", "way", "stand", "moment", "line", "work", "beat", "back", "where"):
            self.assertGreater(seen.get((word, "told"), 0), 30, seen)
        for name in (("where", NoComer), ("back", NoBeat), ("beat", NoRow)):
            self.assertGreater(seen.get(name, 0), 0, seen)

    def test_the_longest_way(self):
        for rule in RULES:
            desk, told = Desk(), Told()
            self.as_told(desk, told, f"house 2 6 {rule}")
            for beat in LONGEST:
                self.as_told(desk, told, "beat " + written_beat(beat))
            for row in ["way", "stand", "work", "beat -"] + [f"where {k}" for k in range(42)]:
                self.as_told(desk, told, row)


class Alike(DeskCase):

    def test_by_hand(self):
        desk = Desk()
        self.says(desk, "house 1 1 first", "ok", "beat 0:1,0:1", "in 0; lost 1; gone 0", "beat -", "in -; lost -; gone -",
                  "alike 1 2 first line", "kept 2", "alike 1 2 turns line", "kept 2", "alike 1 1 last gone", "kept 1",
                  "alike 3 1 lastoff lost", "kept 1", "way", "0:1,0:1 -")
        told = Told()
        told.house, told.way = (1, 1, "first"), (((0, 1), (0, 1)), ())
        for question in ("count", "work", "lost", "gone"):
            self.assertEqual("parted", self.alike(desk, told, (1, 2, "first"), question))
        self.assertEqual("refused", self.alike(desk, told, (1, None, "first"), "line"))

    def test_like_beats_are_one(self):
        desk = Desk()
        self.says(desk, "house 1 - first", "ok")
        for k in range(24):
            desk.say("beat 0:1")
        self.says(desk, "alike 1 - last count", "kept 1", "alike 1 0 last line", "kept 1", "alike 2 3 turns gone", "kept 1")
        self.assertTrue(desk.say("alike 1 0 last lost").startswith("parted 0:1"))

    def test_no_beat(self):
        desk = Desk()
        self.says(desk, "house 1 1 first", "ok")
        for question in QUESTIONS:
            self.no_rows(desk, [f"alike 1 1 first {question}"])
        self.says(desk, "beat -", "in -; lost -; gone -", "alike 1 1 first work", "kept 1", "back", "-")
        self.no_rows(desk, ["alike 1 1 first work"])

    def test_drawn_ones(self):
        draw = chance(273)
        seen = {}
        for turn in range(90):
            desk, told = Desk(), Told()
            house = drawn_house(draw)[:1] + (draw.choice([0, 1, 2, 3, None]), draw.choice(RULES))
            self.as_told(desk, told, "house " + written_house(house))
            for k in range(draw.randint(1, 4)):
                self.as_told(desk, told, "beat " + written_beat(drawn_beat(draw, 2, draw.randint(1, 2))))
            for question in QUESTIONS:
                other = (draw.randint(1, 3), draw.choice([0, 1, 2, 3, None]), draw.choice(RULES))
                other = draw.choice([other, house])
                word = self.alike(desk, told, other, question)
                seen[question, word] = seen.get((question, word), 0) + 1
        self.assertEqual(15, len(seen), seen)

    def test_long_works_lead_to_too_many(self):
        desk, told = Desk(), Told()
        for row in ("house 1 1 first", "beat 0:999999999999"):
            self.as_told(desk, told, row)
        self.assertEqual("refused", self.alike(desk, told, (1, 1, "first"), "count"))

    def test_four_and_twenty_unlike_beats(self):
        desk, told = Desk(), Told()
        self.as_told(desk, told, "house 1 1 first")
        for k in range(24):
            self.as_told(desk, told, f"beat {k % 2}:{k // 2 + 1}")
        for question, word in (("line", "kept"), ("count", "kept"), ("work", "kept"), ("lost", "kept"), ("gone", "kept")):
            self.assertEqual(word, self.alike(desk, told, (2, 1, "frontoff"), question))
        self.assertEqual("parted", self.alike(desk, told, (1, 0, "first"), "count"))


if __name__ == "__main__":
    unittest.main()
