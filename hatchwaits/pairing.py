"""Papers about two HOUSES and one row of beats told: PAIRS that are kept, or a WAY that parts them."""

from hatchwaits.pairchecker import led_by, parts
from hatchwaits.reach import ways_led

MOST_PAIRS = 300


def parting_end(houses, beats, question, pair):
    """The end of a WAY that parts two HOUSES, from a PAIR on: no BEAT, or one; None where neither does."""
    for end in [()] + [(beat,) for beat, lot in beats]:
        if parts(houses, pair, question, end):
            return end
    return None


def pairs_told(one, other, beats, begin, question):
    """A paper of two HOUSES, BEATS, a beginning and a QUESTION; or TooMany."""
    houses = (one, other)
    ways = ways_led(begin, beats, lambda pair, beat: led_by(houses, pair, beat), MOST_PAIRS, "pairs")
    for pair, numbers in ways.items():
        end = parting_end(houses, beats, question, pair)
        if end is not None:
            return ("parted", tuple([beats[number][0] for number in numbers]) + end)
    return ("kept", tuple(sorted(ways)))
