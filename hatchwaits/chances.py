"""Chances of many things as whole numbers, their weights, over one bottom: these add without lowest terms."""

from hatchwaits.errors import TooMany
from hatchwaits.fractions import common_divisor, fraction, plus

MOST_AT_A_MOMENT = 200
NOUGHT = (0, 1)
ONE = (1, 1)


def all_lots(beats):
    """The sum of the lots of BEATS."""
    return sum([lot for beat, lot in beats])


def added(parts):
    """The sum of FRACTIONS, nought of none."""
    told = NOUGHT
    for part in parts:
        told = plus(told, part)
    return told


def common_bottom(row):
    """The least bottom that all shares of a row of (thing, share) tuples can have."""
    bottom = 1
    for thing, share in row:
        bottom = bottom * share[1] // common_divisor(bottom, share[1])
    return bottom


def weights_of(row):
    """The shares of a row of (thing, share) tuples as weights over their common bottom."""
    bottom = common_bottom(row)
    return [top * (bottom // below) for thing, (top, below) in row]


def led_on(weights, beats, lead):
    """The weights one beat on, by a function that tells to what a BEAT leads each weighed thing."""
    told = {}
    for thing, weight in weights.items():
        for beat, lot in beats:
            following = lead(thing, beat)
            told[following] = told.get(following, 0) + weight * lot
    return told


def check_many(weights):
    """Refuse more weighed things than are told of one moment."""
    if len(weights) > MOST_AT_A_MOMENT:
        raise TooMany("stands")


def spread(pairs, bottom):
    """The chances of (number, weight) pairs as a list, number k that of k, up to the greatest; [] of no pairs."""
    weights = {}
    for number, weight in pairs:
        weights[number] = weights.get(number, 0) + weight
    return [fraction(weights.get(k, 0), bottom) for k in range(max(list(weights), default=-1) + 1)]
