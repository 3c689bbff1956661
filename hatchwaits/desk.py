"""A desk: rows of words said to a hatch, and its answers as texts."""

from hatchwaits.errors import NoRow, NoText
from hatchwaits.hatch import Hatch
from hatchwaits.houses import work_left
from hatchwaits.pairchecker import is_question
from hatchwaits.pairing import pairs_told
from hatchwaits.readings import read_house
from hatchwaits.texts import shown_beat, shown_house, shown_numbers, shown_stand, shown_way
from hatchwaits.wording import beat_in, number_in


def house_told(hatch):
    """The answer to house."""
    return shown_house(hatch.house())


def way_told(hatch):
    """The answer to way."""
    return shown_way(hatch.way())


def stand_told(hatch):
    """The answer to stand."""
    return shown_stand(hatch.stand())


def moment_told(hatch):
    """The answer to moment."""
    return str(hatch.moment())


def line_told(hatch):
    """The answer to line."""
    return str(len(hatch.stand()))


def work_told(hatch):
    """The answer to work."""
    return str(work_left(hatch.stand()))


def back_told(hatch):
    """The answer to back."""
    return shown_beat(hatch.back())


BARE_WORDS = {
    "house": house_told, "way": way_told, "stand": stand_told, "moment": moment_told, "line": line_told,
    "work": work_told, "back": back_told,
}


def beat_told(hatch, beat):
    """The answer to beat BEAT."""
    entered, lost, gone = hatch.beat(beat)
    return f"in {shown_numbers(entered)}; lost {shown_numbers(lost)}; gone {shown_numbers(gone)}"


def where_told(hatch, number):
    """The answer to where N."""
    word, *numbers = hatch.where(number)
    return f"{word} {shown_numbers(numbers)}"


def alike_told(hatch, house, question):
    """The answer to alike HOUSE QUESTION."""
    beats = tuple([(beat, 1) for beat in sorted(set(hatch.way()))])
    word, found = pairs_told(hatch.house(), house, beats, ((), ()), question)
    return f"{word} {len(found)}" if word == "kept" else f"{word} {shown_way(found)}"


def house_in(words):
    """The HOUSE that words write, None where they write none."""
    try:
        return read_house(" ".join(words))
    except NoText:
        return None


def answered(hatch, word, given):
    """The answer to a row of a word and what is given behind it, None where there is no such row."""
    if word in BARE_WORDS and len(given) == 0:
        tell = BARE_WORDS[word]
        return tell(hatch)
    if word == "beat" and len(given) == 1:
        beat = beat_in(given[0])
        return None if beat is None else beat_told(hatch, beat)
    if word == "where" and len(given) == 1:
        number = number_in(given[0], 0)
        return None if number is None else where_told(hatch, number)
    if word == "alike" and len(given) == 4 and is_question(given[3]) and hatch.moment() > 0:
        house = house_in(given[:3])
        return None if house is None else alike_told(hatch, house, given[3])
    return None


class Desk:
    """A hatch, or none yet, that is told rows."""

    def __init__(self):
        self.hatch = None

    def say(self, row):
        """The answer to a row; or NoRow, and what the hatch refuses."""
        words = row.split(" ")
        word, given = words[0], words[1:]
        if word == "house" and len(given) > 0:
            house = house_in(given)
            if house is None:
                raise NoRow(row)
            self.hatch = Hatch(house)
            return "ok"
        answer = None if self.hatch is None else answered(self.hatch, word, given)
        if answer is None:
            raise NoRow(row)
        return answer
