"""The STANDS to which BEATS lead a STAND, and the closed sets among them."""

from hatchwaits.errors import TooMany
from hatchwaits.stepping import step

MOST_REACHED = 16


def ways_led(begin, beats, lead, most, word):
    """All to which BEATS lead a beginning, each with numbers of BEATS that lead there, as a dict.

    Lead tells to what a BEAT leads each of them; refused with TooMany(word) where they are more than most."""
    ways, unseen = {begin: ()}, [begin]
    while len(unseen) > 0:
        ahead = unseen.pop(0)
        for number, (beat, lot) in enumerate(beats):
            following = lead(ahead, beat)
            if following not in ways:
                ways[following] = ways[ahead] + (number,)
                unseen.append(following)
        # A house without bound may lead on for ever, so this can't wait until all are seen.
        if len(ways) > most:
            raise TooMany(word)
    return ways


def ways_from(house, beats, stand):
    """All STANDS reached, each with numbers of BEATS that lead there, as a dict; or TooMany."""
    return ways_led(stand, beats, lambda each, beat: step(house, each, beat)[0], MOST_REACHED, "stands")


def reached(house, beats, stand):
    """All STANDS reached from one, rising; or TooMany."""
    return sorted(ways_from(house, beats, stand))


def closed_sets(house, beats, stand):
    """The closed sets of reached STANDS within which no lesser one lies, rising; or TooMany."""
    onward = {each: reached(house, beats, each) for each in reached(house, beats, stand)}
    # What is reached from a STAND is closed; no lesser set lies in it where each of it reaches as much.
    return [found for each, found in onward.items()
            if each == found[0] and all([onward[other] == found for other in found])]
