"""How long one PERSON of a STAND stays, by chances."""

from hatchwaits.chances import all_lots, check_many, led_on
from hatchwaits.fractions import fraction
from hatchwaits.stepping import let_in, worked


def place_on(house, stand, place, beat):
    """The STAND behind a BEAT and the place in it of who had the told one; None where he is gone."""
    staying, hands_on, gone = worked(house, let_in(house, stand, beat)[0])
    if place in gone:
        return None
    following = tuple([person for ahead, person in staying])
    return (following, [ahead for ahead, person in staying].index(place))


def stay_row(house, beats, stand, place, n):
    """The chances that the PERSON at a place is gone at the moments 1 to n, and that he is in the house yet."""
    lots = all_lots(beats)
    weights, bottom = {(stand, place): 1}, 1
    told = []
    for turn in range(n):
        weights = led_on(weights, beats, lambda pair, beat: place_on(house, pair[0], pair[1], beat))
        bottom *= lots
        told.append(fraction(weights.pop(None, 0), bottom))
        check_many(weights)
    return (tuple(told), fraction(sum(weights.values()), bottom))
