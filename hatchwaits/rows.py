"""ROWS of chances: where a HOUSE stands so many beats on, and what its next beat brings in the mean."""

from hatchwaits.chances import check_many, common_bottom, led_on, spread, weights_of
from hatchwaits.fractions import fraction, mean_of
from hatchwaits.houses import in_hand, work_left
from hatchwaits.stepping import let_in, step


def row_at(house, beats, row, t):
    """The ROW t beats on; refused with TooMany where a moment on the way has too many STANDS."""
    weights = dict(zip([stand for stand, share in row], weights_of(row)))
    for turn in range(t):
        weights = led_on(weights, beats, lambda stand, beat: step(house, stand, beat)[0])
        check_many(weights)
    bottom = sum(weights.values())
    return tuple([(stand, fraction(weight, bottom)) for stand, weight in sorted(weights.items())])


def spread_by(row, measure):
    """The chances of what a function tells of the STANDS of a ROW, as a list."""
    numbers = [measure(stand) for stand, share in row]
    return spread(list(zip(numbers, weights_of(row))), common_bottom(row))


def count_row(row):
    """The chances of how many are in the house."""
    return spread_by(row, lambda stand: len(stand))


def work_row(row):
    """The chances of how great the WORK is."""
    return spread_by(row, work_left)


def mean_in(house, beats, row, measure):
    """The mean, over a ROW and the next beat, of what a function tells of a HOUSE, a STAND and a BEAT."""
    return mean_of([(measure(house, stand, beat), weight * lot)
                    for (stand, share), weight in zip(row, weights_of(row)) for beat, lot in beats])


def lost_in(house, stand, beat):
    """How many COMERS of a BEAT are lost."""
    return let_in(house, stand, beat)[1]


def entered_in(house, stand, beat):
    """How many COMERS of a BEAT are let in."""
    return len(beat) - lost_in(house, stand, beat)


def picked_in(house, stand, beat):
    """How many are picked in a BEAT, its COMERS in the house already."""
    return in_hand(house, let_in(house, stand, beat)[0])


def gone_in(house, stand, beat):
    """How many are gone at the moment behind a BEAT."""
    return len(step(house, stand, beat)[2])


def work_let_in(house, stand, beat):
    """How much work the let in COMERS of a BEAT bring."""
    return work_left(let_in(house, stand, beat)[0]) - work_left(stand)


def come_mean(beats):
    """How many come in a beat, in the mean."""
    return mean_of([(len(beat), lot) for beat, lot in beats])


def lost_mean(house, beats, row):
    """How many are lost in the next beat, in the mean."""
    return mean_in(house, beats, row, lost_in)


def let_mean(house, beats, row):
    """How many are let in in the next beat, in the mean."""
    return mean_in(house, beats, row, entered_in)


def picked_mean(house, beats, row):
    """How many are picked in the next beat, in the mean."""
    return mean_in(house, beats, row, picked_in)


def gone_mean(house, beats, row):
    """How many are gone at the next moment, in the mean."""
    return mean_in(house, beats, row, gone_in)


def work_mean(house, beats, row):
    """How much work is let in in the next beat, in the mean."""
    return mean_in(house, beats, row, work_let_in)
