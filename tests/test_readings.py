"""Promises 2, 8 and 77: texts read."""

import unittest

from hatchwaits.errors import NoText
from hatchwaits.readings import read_house, read_paper, read_stand, read_way
from hatchwaits.texts import shown_house, shown_paper, shown_stand, shown_way
from tests.helpers import RULES, PlainCase, chance
from tests.simulation import LONGEST
from tests.wordings import (
    SIGNS, changed_texts, drawn_text, long_house, long_paper, long_stand, long_way, written_house, written_paper,
    written_stand, written_way, wrong_place, wrong_word)

READERS = {"house": read_house, "way": read_way, "stand": read_stand}
SHOWERS = {"house": shown_house, "way": shown_way, "stand": shown_stand}
MAKERS = {"house": long_house, "way": long_way, "stand": long_stand}
WRITERS = {"house": written_house, "way": written_way, "stand": written_stand}

HOUSES = ["2 6 first", "1 - turns", "3 0 shortoff", "10 999999999999 lastoff"]
WAYS = ["none", "-", "- -", "0:3,1:2", "0:3 - 1:6,1:6 1:1", "1:999999999999,0:10"]
STANDS = ["-", "0:3* 1:2", "1:1", "0:10* 0:2* 1:999999999999"]
PAPERS = [["kept"], ["parted"], ["kept", "- / -"], ["kept", "0:3* 1:2 / 0:1", "- / 1:1*", "1:2 / -"],
          ["parted", "0:3,1:2"], ["parted", "-", "1:1", "0:2,0:2,0:2", "-"]]


class Reading(PlainCase):

    def refused(self, row, word, reader, given):
        handed = repr(given)
        for turn in range(2):
            with self.assertRaises(NoText) as caught:
                reader(given)
            self.assertIs(NoText, type(caught.exception))
            self.same((caught.exception.row, caught.exception.word), (row, word))
            self.assertEqual(handed, repr(given))

    def as_due(self, sort, text):
        """The text is read as it is written, or refused where it is due; told is whether it is read."""
        word = wrong_word(sort, text)
        if word is not None:
            self.refused(0, word, READERS[sort], text)
            return False
        self.same(WRITERS[sort](self.ask(READERS[sort], text)), text)
        return True

    def paper_as_due(self, lines):
        wrong = wrong_place(lines)
        if wrong is not None:
            self.refused(*wrong, read_paper, lines)
            return False
        self.same(written_paper(self.ask(read_paper, lines)), lines)
        return True


class Right(Reading):

    def test_by_hand(self):
        self.tells((2, 6, "first"), read_house, "2 6 first")
        self.tells((1, None, "turns"), read_house, "1 - turns")
        self.tells((10, 0, "lastoff"), read_house, "10 0 lastoff")
        self.tells((), read_way, "none")
        self.tells(((),), read_way, "-")
        self.tells((((0, 3), (1, 2)), (), ((1, 10),)), read_way, "0:3,1:2 - 1:10")
        self.tells((), read_stand, "-")
        self.tells(((0, 3, True), (1, 2, False)), read_stand, "0:3* 1:2")
        self.tells(("kept", ()), read_paper, ["kept"])
        self.tells(("parted", ()), read_paper, ["parted"])
        self.tells(("kept", (((), ()), (((0, 3, True), (1, 2, False)), ()), ((), ((1, 1, False),)))), read_paper,
                   ["kept", "- / -", "0:3* 1:2 / -", "- / 1:1"])
        self.tells(("parted", (((0, 3), (1, 2)), (), ((1, 1),))), read_paper, ["parted", "0:3,1:2", "-", "1:1"])

    def test_each_rule(self):
        for rule in RULES:
            self.tells((1, 2, rule), read_house, "1 2 " + rule)

    def test_what_is_written_is_read_as_the_same(self):
        draw = chance(250)
        for turn in range(400):
            for sort, make in MAKERS.items():
                thing = make(draw)
                self.tells(thing, READERS[sort], SHOWERS[sort](thing))
                self.tells(thing, READERS[sort], WRITERS[sort](thing))
            paper = long_paper(draw)
            self.tells(paper, read_paper, shown_paper(paper))
            self.tells(paper, read_paper, written_paper(paper))

    def test_what_is_read_is_written_as_the_same(self):
        for sort, texts in (("house", HOUSES), ("way", WAYS), ("stand", STANDS)):
            for text in texts:
                self.assertTrue(self.as_due(sort, text))
                self.same(SHOWERS[sort](READERS[sort](text)), text)
        for lines in PAPERS:
            self.assertTrue(self.paper_as_due(lines))
            self.same(shown_paper(read_paper(lines)), lines)

    def test_long_ones(self):
        self.tells(LONGEST, read_way, shown_way(LONGEST))
        self.tells(((0, 1, True),) * 800, read_stand, " ".join(["0:1*"] * 800))
        self.tells(((),) * 2000, read_way, " ".join("-" * 2000))
        self.tells((((0, 1),) * 1000,), read_way, ",".join(["0:1"] * 1000))
        self.tells(("parted", ((),) * 400), read_paper, ["parted"] + ["-"] * 400)
        pair = (((0, 1, True),) * 8, ((1, 6, False),) * 8)
        self.tells(("kept", (pair,) * 400), read_paper, shown_paper(("kept", (pair,) * 400)))
        self.refused(0, 799, read_stand, " ".join(["0:1*"] * 799 + ["0:1**"]))

    def test_lists_stay_the_asker_s(self):
        lines = ["kept", "- / -"]
        told = read_paper(lines)
        lines[1] = "0:1 / -"
        lines.append("x")
        self.same(told, ("kept", (((), ()),)))


class Wrong(Reading):

    def test_words_without_signs(self):
        for reader in (read_house, read_way, read_stand):
            self.refused(0, 0, reader, "")
            self.refused(0, 0, reader, " ")
            self.refused(0, 0, reader, "   ")
        self.refused(0, 0, read_house, " 2 6 first")
        self.refused(0, 1, read_house, "2  6 first")
        self.refused(0, 2, read_house, "2 6  first")
        self.refused(0, 3, read_house, "2 6 first ")
        self.refused(0, 0, read_way, " 0:1")
        self.refused(0, 1, read_way, "0:1  0:1")
        self.refused(0, 2, read_way, "0:1 0:1 ")
        self.refused(0, 1, read_way, "none ")
        self.refused(0, 0, read_stand, " 0:1")
        self.refused(0, 1, read_stand, "- ")
        self.refused(0, 1, read_stand, "0:1  0:1*")

    def test_words_too_few_and_too_many(self):
        self.refused(0, 1, read_house, "2")
        self.refused(0, 2, read_house, "2 6")
        self.refused(0, 2, read_house, "2 -")
        self.refused(0, 3, read_house, "2 6 first first")
        self.refused(0, 3, read_house, "2 6 first 1 - turns")
        self.refused(0, 0, read_house, "first 2 6")

    def test_numbers(self):
        for word in ("02", "00", "+2", "-2", "2.0", "2,0", "two", "1000000000000", "0000000000001", "0x2", "1_0", "2-",
                     "-", "--", "1e3", "2:", "*", "/", "12345678901x", "first", "2*", "~", "!"):
            self.refused(0, 0, read_house, word + " 6 first")
            if word != "-":
                self.refused(0, 1, read_house, "2 " + word + " first")
            for text in (f"0:{word}", f"{word}:1", f"0:1,0:{word}", f"0:{word},0:1", f"1:{word},"):
                self.refused(0, 0, read_way, text)
                self.refused(0, 1, read_way, "0:1 " + text)
                if word != "2*":
                    self.refused(0, 0, read_stand, text)
                    self.refused(0, 2, read_stand, "0:1 0:1* " + text)
        self.refused(0, 0, read_house, "0 6 first")
        self.refused(0, 0, read_way, "0:0")
        self.refused(0, 0, read_stand, "0:0")
        self.refused(0, 0, read_stand, "0:0*")
        self.tells((999999999999, 0, "first"), read_house, "999999999999 0 first")
        self.refused(0, 1, read_house, "1 1000000000000 first")
        self.refused(0, 0, read_house, "1000000000000 1 first")

    def test_ranks(self):
        for rank in ("2", "00", "01", "-", "", "10", "+0", "-0", "a", "*", "0*", "0:0"):
            self.refused(0, 0, read_way, rank + ":1")
            self.refused(0, 0, read_stand, rank + ":1")

    def test_rules(self):
        for rule in ("First", "FIRST", "firs", "firstt", "off", "", "1", "-", "none", "first,", "lastOff"):
            self.refused(0, 2, read_house, "1 2 " + rule)
        self.refused(0, 3, read_house, "1 2 last off")

    def test_beats(self):
        for word in ("0:1,", ",0:1", "0:1,,0:1", ",", "0", "1", ":", "0:", ":1", "0:1:1", "0;1", "0:1;0:1", "-,0:1",
                     "0:1,-", "--", "none,", "0:1*", "0:1/", "0:1,0", "0 :1", "nones", "None"):
            self.refused(0, 0, read_way, word)
            self.refused(0, 1, read_way, "- " + word)

    def test_none_and_nothing_stand_alone(self):
        self.refused(0, 1, read_way, "none none")
        self.refused(0, 1, read_way, "none -")
        self.refused(0, 1, read_way, "none 0:1")
        self.refused(0, 1, read_way, "0:1 none")
        self.refused(0, 2, read_way, "0:1 - none")
        self.refused(0, 1, read_stand, "- -")
        self.refused(0, 1, read_stand, "- 0:1")
        self.refused(0, 1, read_stand, "0:1 -")
        self.refused(0, 0, read_stand, "none")
        self.refused(0, 0, read_house, "none")
        self.refused(0, 1, read_house, "1 none first")

    def test_stars(self):
        for word in ("*", "0:1**", "*0:1", "0*:1", "0:*1", "0:*", ":*", "0:1*,0:1", "0:1*0", "-*", "0:1 *"):
            at = 1 if word == "0:1 *" else 0
            self.refused(0, at, read_stand, word)
            self.refused(0, at + 1, read_stand, "1:1* " + word)

    def test_papers(self):
        self.refused(0, 0, read_paper, [])
        self.refused(0, 0, read_paper, [""])
        self.refused(0, 0, read_paper, ["keep"])
        self.refused(0, 0, read_paper, ["Kept", "- / -"])
        self.refused(0, 1, read_paper, ["kept parted"])
        self.refused(0, 1, read_paper, ["kept "])
        self.refused(0, 0, read_paper, [" kept"])
        self.refused(0, 1, read_paper, ["parted - -", "-"])
        self.refused(0, 1, read_paper, ["kept - / -", "x"])
        self.refused(0, 0, read_paper, ["- / -"])

    def test_rows_behind_kept(self):
        for word, text in ((0, ""), (0, "/"), (0, "/ -"), (1, "-"), (2, "- /"), (2, "- / /"), (3, "- / - -"), (3, "- / - /"),
                           (1, "- -"), (1, "0:1"), (2, "0:1 1:1"), (2, "0:1 /"), (2, "0:1 / /"), (3, "0:1 / 0:1 /"),
                           (1, "0:1 - / -"), (3, "0:1 / 0:1 -"), (3, "0:1 / - 0:1"), (2, "0:1 / none"), (2, "- / "),
                           (1, "-  / -"), (0, " - / -"), (3, "- / - "), (0, "-/-"), (0, "none / -"), (0, "0:1,0:1 / -"),
                           (2, "- / 0:0"), (1, "0:1 0:01 / -"), (4, "0:1* 0:1 / 0:1 *"), (2, "0:1 / 0:1/"), (1, "- 0:1 / -")):
            self.refused(1, word, read_paper, ["kept", text])
            self.refused(1, word, read_paper, ["kept", text, "x", ""])
            self.refused(3, word, read_paper, ["kept", "- / -", "0:1 0:2* / 1:1", text])

    def test_rows_behind_parted(self):
        for word, text in ((0, ""), (1, "- -"), (1, "0:1 0:1"), (0, "none"), (1, "0:1 "), (0, " 0:1"), (0, "0:1,"), (0, "/"),
                           (1, "- / -"), (0, "0:1*"), (0, "0:0"), (1, "- "), (0, "parted")):
            self.refused(1, word, read_paper, ["parted", text])
            self.refused(1, word, read_paper, ["parted", text, "x"])
            self.refused(4, word, read_paper, ["parted", "-", "0:1,1:1", "1:12", text, "- -"])

    def test_all_changed_texts(self):
        right = 0
        for sort, texts in (("house", HOUSES), ("way", WAYS), ("stand", STANDS)):
            for text in texts:
                for other in changed_texts(text):
                    right += self.as_due(sort, other)
        self.assertGreater(right, 500)

    def test_all_changed_papers(self):
        right = 0
        for lines in PAPERS:
            for row, text in enumerate(lines):
                for other in changed_texts(text):
                    right += self.paper_as_due(lines[:row] + [other] + lines[row + 1:])
                right += self.paper_as_due(lines[:row] + lines[row + 1:])
                right += self.paper_as_due(lines[row:] + lines[:row])
        self.assertGreater(right, 200)

    def test_each_as_each_other(self):
        for text in HOUSES + WAYS + STANDS + [text for lines in PAPERS for text in lines]:
            for sort in READERS:
                self.as_due(sort, text)
            self.paper_as_due(["kept", text])
            self.paper_as_due(["parted", text])
            self.paper_as_due([text])

    def test_any_texts(self):
        draw = chance(251)
        for turn in range(1500):
            for signs in (SIGNS, " -:,01*", " -/:1*", "01 -nonefirst"):
                text = drawn_text(draw, signs)
                for sort in READERS:
                    self.as_due(sort, text)
                self.paper_as_due([draw.choice(["kept", "parted", text]), text])
        for sign in SIGNS:
            for sort in READERS:
                self.as_due(sort, sign)
                self.as_due(sort, "1 2" + sign)
                self.as_due(sort, "0:1" + sign)
            self.paper_as_due([sign])
            self.paper_as_due(["kept", "- " + sign + " -"])
            self.paper_as_due(["parted", sign])

    def test_very_long_texts(self):
        for text in ("~" * 4000, " " * 4000, "0:1," * 1000, "1" * 4000, "- " * 2000, "*" * 4000, ":" * 4000, "/ " * 2000):
            for reader in (read_house, read_way, read_stand):
                with self.assertRaises(NoText):
                    reader(text)
            for word in ("kept", "parted"):
                with self.assertRaises(NoText):
                    read_paper([word, text])
        self.refused(0, 2000, read_way, "- " * 2000)
        self.refused(4999, 0, read_paper, ["kept"] + ["- / -"] * 4998 + [""])


if __name__ == "__main__":
    unittest.main()
