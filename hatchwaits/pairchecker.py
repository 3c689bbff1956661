"""The checker of papers about two HOUSES and one row of beats: it looks at any thing and seeks nothing.

The two HOUSES stand beside one another in a tuple, houses: the one, then the other."""

from hatchwaits.comings import is_way
from hatchwaits.errors import NoPaper
from hatchwaits.houses import is_stand, work_left
from hatchwaits.kinds import is_tuple_of
from hatchwaits.stepping import step

AT_A_PAIR = ("line", "count", "work")
IN_A_BEAT = ("lost", "gone")


def is_question(thing):
    """Tell whether any thing is a QUESTION."""
    return isinstance(thing, str) and thing in AT_A_PAIR + IN_A_BEAT


def is_pair(houses, thing):
    """Tell whether any thing is a PAIR of two HOUSES."""
    return is_tuple_of(2, thing) and is_stand(houses[0], thing[0]) and is_stand(houses[1], thing[1])


def led_by(houses, pair, beat):
    """The PAIR to which a BEAT leads a PAIR."""
    return (step(houses[0], pair[0], beat)[0], step(houses[1], pair[1], beat)[0])


def holds_at(question, pair):
    """Tell whether one of the QUESTIONS "line", "count", "work" holds at a PAIR."""
    one, other = pair
    if question == "line":
        return len(one) <= len(other)
    if question == "count":
        return len(one) == len(other)
    return work_left(one) == work_left(other)


def holds_in(houses, question, pair, beat):
    """Tell whether one of the QUESTIONS "lost", "gone" holds in a BEAT from a PAIR."""
    here, there = step(houses[0], pair[0], beat), step(houses[1], pair[1], beat)
    if question == "lost":
        return here[1] == there[1]
    return len(here[2]) == len(there[2])


def holds(houses, beats, question, pair):
    """Tell whether a QUESTION holds at a PAIR."""
    if question in AT_A_PAIR:
        return holds_at(question, pair)
    return all([holds_in(houses, question, pair, beat) for beat, lot in beats])


def led_along(houses, begin, way):
    """The PAIR to which a WAY leads the beginning."""
    pair = begin
    for beat in way:
        pair = led_by(houses, pair, beat)
    return pair


def parts(houses, begin, question, way):
    """Tell whether a QUESTION doesn't hold where a WAY leads the beginning, or in the WAY's last BEAT."""
    if question in AT_A_PAIR:
        return not holds_at(question, led_along(houses, begin, way))
    return len(way) > 0 and not holds_in(houses, question, led_along(houses, begin, way[:-1]), way[-1])


def check_kept(houses, beats, begin, question, pairs):
    """Refuse what a KEPT paper lacks, the first of it."""
    among = {pair: True for pair in pairs}
    if begin not in among:
        raise NoPaper("begin", -1)
    for k, pair in enumerate(pairs):
        if not holds(houses, beats, question, pair):
            raise NoPaper("holds", k)
        if not all([led_by(houses, pair, beat) in among for beat, lot in beats]):
            raise NoPaper("leads", k)


def check_parted(houses, beats, begin, question, way):
    """Refuse what a PARTED paper lacks, the first of it."""
    known = [beat for beat, lot in beats]
    for k, beat in enumerate(way):
        if beat not in known:
            raise NoPaper("beat", k)
    if not parts(houses, begin, question, way):
        raise NoPaper("so", -1)


def is_kept(houses, thing):
    """Tell whether any thing is a tuple ("kept", pairs) of PAIRS of two HOUSES."""
    if not is_tuple_of(2, thing) or thing[0] != "kept" or not isinstance(thing[1], tuple):
        return False
    return all([is_pair(houses, pair) for pair in thing[1]])


def is_parted(thing):
    """Tell whether any thing is a tuple ("parted", WAY)."""
    return is_tuple_of(2, thing) and thing[0] == "parted" and is_way(thing[1])


def lets_pairs(one, other, beats, begin, question, thing):
    """True where any thing is a paper of two HOUSES, BEATS, a beginning and a QUESTION; else NoPaper."""
    houses = (one, other)
    if is_kept(houses, thing):
        check_kept(houses, beats, begin, question, thing[1])
    elif is_parted(thing):
        check_parted(houses, beats, begin, question, thing[1])
    else:
        raise NoPaper("shape", -1)
    return True
