"""Promises 2, 5, 6 and 8 over the whole program, and the interface."""

import importlib
import inspect
import unittest

from hatchwaits.desk import Desk
from hatchwaits.errors import WaitError
from hatchwaits.hatch import Hatch
from tests.helpers import RULES, PlainCase, chance, spoil
from tests.simulation import LONGEST

# Each name of the interface, with how many arguments it takes.
INTERFACE = {
    "fractions": {"is_fraction": 1, "fraction": 2, "plus": 2, "minus": 2, "times": 2, "over": 2, "less": 2, "mean_of": 1},
    "lots": {"is_flow": 1, "total": 1, "share_of": 2, "mean": 1, "second": 1, "folded": 2, "times_over": 2},
    "comings": {"is_comer": 1, "is_beat": 1, "is_way": 1, "is_beats": 1, "many_in": 1, "work_in": 1, "beats_of": 2,
                "flow_of": 1},
    "houses": {"is_house": 1, "words": 0, "keeps": 1, "is_stand": 2, "work_left": 1, "in_hand": 2},
    "stepping": {"let_in": 3, "picked": 2, "step": 3},
    "runs": {"run": 3, "courses": 2, "drained": 2},
    "stretches": {"busy_stretches": 2, "sums": 4},
    "changes": {"with_comer": 4, "without": 2, "longer": 3, "front_alone": 1, "later": 2},
    "behind": {"gone_way": 3, "through": 3},
    "rows": {"row_at": 4, "count_row": 1, "work_row": 1, "come_mean": 1, "lost_mean": 3, "let_mean": 3, "picked_mean": 3,
             "gone_mean": 3, "work_mean": 3},
    "stays": {"stay_row": 5},
    "waits": {"wait_row": 2},
    "reach": {"reached": 3, "closed_sets": 3},
    "sharechecker": {"lets_shares": 4},
    "sharing": {"share_paper": 3, "standing": 3},
    "flows": {"word_of": 2, "empty_mean": 2, "mean_standing": 1},
    "busy": {"busy_row": 3, "first_busy": 2},
    "steprows": {"step_row": 2},
    "stepchecker": {"lets_steps": 2},
    "runchecker": {"lets_run": 3},
    "running": {"run_paper": 2, "ever_bound": 2},
    "backchecker": {"lets_back": 3, "height": 2},
    "backing": {"back_paper": 3, "back_bound": 2},
    "pairchecker": {"lets_pairs": 6},
    "pairing": {"pairs_told": 5},
    "texts": {"shown_house": 1, "shown_way": 1, "shown_stand": 1, "shown_paper": 1},
    "readings": {"read_house": 1, "read_way": 1, "read_stand": 1, "read_paper": 1},
    "hatch": {"Hatch": 1},
    "desk": {"Desk": 0},
    "errors": {"NoHouse": 1, "NoPaper": 2, "NoRest": 1, "TooMany": 1, "NoComer": 1, "NoBeat": 0, "NoText": 2, "NoRow": 1},
}

METHODS = {Hatch: {"beat": 1, "house": 0, "way": 0, "moment": 0, "stand": 0, "where": 1, "back": 0}, Desk: {"say": 1}}

HOUSE, BEATS = (1, 2, "last"), (((), 1), (((0, 1), (1, 2)), 3), (((0, 3),), 2))
STUCK = ((((0, 1), (0, 1)), 1), (((1, 1), (1, 1)), 1))
WAY = (((0, 2), (1, 1)), ((0, 3),), (), ((1, 1),))
STAND = ((0, 2, True), (1, 1, False))
ROW = (((), (1, 2)), (STAND, (1, 2)))
GONE, IN, LOST = ("gone", 0, 3, 0), ("in", 0, 1), ("lost", 0)

# Calls of every module, lists handed in wherever a list may be.
CALLS = [
    ("fractions", "mean_of", ([(3, 1), (5, 2)],)), ("fractions", "is_fraction", ([1, 2],)),
    ("lots", "is_flow", ([1, 2],)), ("lots", "times_over", ((1, 2), 5)),
    ("comings", "is_beats", ([[(), 1]],)), ("comings", "beats_of", ((1, 2), (1, 0, 2))),
    ("houses", "words", ()), ("houses", "is_house", ([1, None, "first"],)), ("houses", "is_stand", (HOUSE, [(0, 1, True)])),
    ("stepping", "step", (HOUSE, STAND, WAY[0])), ("runs", "run", (HOUSE, WAY, STAND)), ("runs", "courses", (HOUSE, WAY)),
    ("runs", "courses", (HOUSE, LONGEST)), ("stretches", "busy_stretches", (HOUSE, WAY)),
    ("changes", "later", ([IN, GONE, LOST], [GONE, GONE, GONE])), ("changes", "longer", (WAY, 9, 1)),
    ("behind", "through", ((HOUSE, HOUSE), WAY, (1, 2, 3, 4))), ("rows", "row_at", (HOUSE, BEATS, ROW, 3)),
    ("rows", "count_row", (ROW,)), ("rows", "work_row", (ROW,)), ("stays", "stay_row", (HOUSE, BEATS, STAND, 1, 4)),
    ("waits", "wait_row", ((1, 2, "first"), ROW)), ("waits", "wait_row", ((1, 0, "first"), (((), (1, 1)),))),
    ("reach", "reached", ((1, 1, "first"), BEATS, ())), ("reach", "closed_sets", (HOUSE, STUCK, ())),
    ("sharechecker", "lets_shares", (HOUSE, BEATS, (), ["one", ([], []), (None,)])),
    ("sharing", "share_paper", (HOUSE, STUCK, ())), ("sharing", "standing", (HOUSE, STUCK, ())),
    ("sharing", "standing", ((1, 1, "first"), BEATS, ())), ("busy", "busy_row", ((2, 1), 2, 5)),
    ("steprows", "step_row", ((6, 3, 1), 5)), ("stepchecker", "lets_steps", ((6, 3, 1), ([5, 6],))),
    ("runchecker", "lets_run", ((1, 0, 2), 1, [1, 2])), ("running", "run_paper", ((1, 0, 2), 1)),
    ("running", "run_paper", ((1,), 1)), ("backchecker", "lets_back", (BEATS, 3, ((1, 2), [(1, 1)]))),
    ("backing", "back_paper", (BEATS, 3, 5)), ("pairchecker", "lets_pairs", (HOUSE, HOUSE, BEATS, ((), ()), "line", ["kept", []])),
    ("pairing", "pairs_told", (HOUSE, (1, 2, "front"), BEATS, ((), ()), "gone")),
    ("pairing", "pairs_told", (HOUSE, (1, 2, "front"), BEATS, ((), ()), "lost")),
    ("pairing", "pairs_told", ((1, None, "first"), HOUSE, BEATS, ((), ()), "work")),
    ("texts", "shown_paper", (("kept", ((STAND, ()), (STAND, ()))),)), ("texts", "shown_paper", (("parted", WAY),)),
    ("readings", "read_paper", (["kept", "- / 0:1*"],)), ("readings", "read_paper", (["kept", "x"],)),
    ("readings", "read_way", ("0:1 -",)),
]


def lists_in(thing):
    """All lists within a thing, itself too."""
    told = [thing] if type(thing) is list else []
    if type(thing) in (list, tuple):
        for part in thing:
            told += lists_in(part)
    return told


def answer(module, name, given):
    """What is told, or the refusal with its fields."""
    function = getattr(importlib.import_module("hatchwaits." + module), name)
    try:
        return function(*given)
    except WaitError as refusal:
        return (type(refusal).__name__,) + tuple(sorted(vars(refusal).items()))


class Interface(unittest.TestCase):

    def test_all_is_there(self):
        for module, names in INTERFACE.items():
            for name, many in names.items():
                given = inspect.signature(getattr(importlib.import_module("hatchwaits." + module), name)).parameters
                self.assertEqual(many, len(given), name)
        for kind, names in METHODS.items():
            for name, many in names.items():
                self.assertEqual(many + 1, len(inspect.signature(getattr(kind, name)).parameters), name)

    def test_arguments_have_the_names_of_the_document(self):
        for module, name, names in (
                ("runchecker", "lets_run", "flow hands thing"), ("running", "run_paper", "flow hands"),
                ("running", "ever_bound", "paper w"), ("backchecker", "lets_back", "beats hands thing"),
                ("backchecker", "height", "paper stand"), ("backing", "back_paper", "beats hands most"),
                ("backing", "back_bound", "paper stand"),
                ("pairchecker", "lets_pairs", "one other beats begin question thing"),
                ("pairing", "pairs_told", "one other beats begin question"), ("texts", "shown_house", "house"),
                ("texts", "shown_way", "way"), ("texts", "shown_stand", "stand"), ("texts", "shown_paper", "paper"),
                ("readings", "read_house", "text"), ("readings", "read_way", "text"), ("readings", "read_stand", "text"),
                ("readings", "read_paper", "lines"), ("hatch", "Hatch", "thing")):
            given = inspect.signature(getattr(importlib.import_module("hatchwaits." + module), name)).parameters
            self.assertEqual(names.split(), list(given))


class TheAskersOwn(PlainCase):

    def test_no_two_places_hold_one_list(self):
        some = 0
        for call in CALLS:
            handed = lists_in(call)
            told = [answer(*call) for turn in range(3)]
            every = [each for one in told for each in lists_in(one)]
            self.assertEqual(len(every), len({id(each) for each in every}), call)
            self.assertEqual(set(), {id(each) for each in every} & {id(each) for each in handed}, call)
            some += len(every)
        self.assertGreater(some, 30)

    def test_what_is_done_to_what_is_told_changes_nothing(self):
        for call in CALLS:
            first = answer(*call)
            ahead = repr(first)
            for turn in range(2):
                spoil(answer(*call))
            self.assertEqual(ahead, repr(first), call)
            self.assertEqual(ahead, repr(answer(*call)), call)

    def test_what_is_done_to_what_was_handed_in_changes_nothing(self):
        for module, name, given in CALLS:
            handed = eval(repr(given), {})
            told = answer(module, name, handed)
            ahead = repr(told)
            self.assertEqual(repr(given), repr(handed), name)
            spoil(handed)
            self.assertEqual(ahead, repr(told), name)
            self.assertEqual(ahead, repr(answer(module, name, given)), name)

    def test_nothing_hangs_on_what_was_asked_before(self):
        wanted = [repr(answer(*call)) for call in CALLS]
        draw = chance(280)
        for turn in range(4):
            order = list(range(len(CALLS)))
            draw.shuffle(order)
            for at in order:
                self.assertEqual(wanted[at], repr(answer(*CALLS[at])), CALLS[at])

    def test_a_hatch_and_a_desk_keep_nothing_of_what_is_told(self):
        hatch, desk = Hatch((1, 2, "first")), Desk()
        desk.say("house 1 2 first")
        for k, beat in enumerate(WAY):
            spoil(hatch.beat(beat))
            spoil(hatch.where(0))
            self.same(hatch.way(), WAY[:k + 1])
            desk.say("beat " + (",".join(f"{rank}:{work}" for rank, work in beat) or "-"))
        self.assertEqual("0:2,1:1 0:3 - 1:1", desk.say("way"))
        for call in CALLS:
            answer(*call)
        self.same(hatch.way(), WAY)
        self.assertEqual("0:2,1:1 0:3 - 1:1", desk.say("way"))


class ToldIsHandedInAgain(PlainCase):
    """Point 2: what was told here may be handed in again, whatever its size."""

    def test_papers_go_through_texts_and_checkers(self):
        tell, check = answer_of("pairing", "pairs_told"), answer_of("pairchecker", "lets_pairs")
        show, read = answer_of("texts", "shown_paper"), answer_of("readings", "read_paper")
        draw = chance(281)
        words = set()
        for turn in range(60):
            one, other = ((draw.randint(1, 2), draw.randint(0, 3), draw.choice(RULES)) for k in (0, 1))
            for question in ("line", "count", "work", "lost", "gone"):
                paper = tell(one, other, BEATS, ((), ()), question)
                if paper[0] == "TooMany":
                    continue
                words.add(paper[0])
                again = read(show(paper))
                self.same(again, paper)
                self.assertIs(True, check(one, other, BEATS, ((), ()), question, again))
        self.assertEqual({"kept", "parted"}, words)

    def test_a_told_flow_is_judged(self):
        flow = answer_of("lots", "times_over")((1, 3, 2), 40)
        for hands in (1, 3, 40, 46, 47, 100):
            word = answer_of("flows", "word_of")(flow, hands)
            self.assertEqual("runs" if 40 * 7 > 6 * hands else "rests", word)
            paper = answer_of("running", "run_paper")(flow, hands)
            if word == "runs":
                self.assertIs(True, answer_of("runchecker", "lets_run")(flow, hands, paper))
                bound = answer_of("running", "ever_bound")(paper, 16)
                self.assertIs(True, answer_of("fractions", "is_fraction")(bound))
            else:
                self.assertEqual(("NoRest", ("word", "rests")), paper)

    def test_told_beats_come_back(self):
        beats = answer_of("comings", "beats_of")((9, 1, 1, 1), (3, 1, 1, 1, 1, 1))
        paper = answer_of("backing", "back_paper")(beats, 2, 40)
        self.assertIs(True, answer_of("backchecker", "lets_back")(beats, 2, paper))
        self.assertEqual(40, len(paper[1]))


def answer_of(module, name):
    return lambda *given: answer(module, name, given)


if __name__ == "__main__":
    unittest.main()
