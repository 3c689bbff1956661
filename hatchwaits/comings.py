"""COMERS, BEATS and WAYS, and BEATS with their lots."""

from hatchwaits.kinds import is_number_from, is_rank, is_tuple_of
from hatchwaits.lots import total


def is_comer(thing):
    """Tell whether any thing is a COMER."""
    return is_tuple_of(2, thing) and is_rank(thing[0]) and is_number_from(1, thing[1])


def is_beat(thing):
    """Tell whether any thing is a BEAT."""
    return isinstance(thing, tuple) and all([is_comer(comer) for comer in thing])


def is_way(thing):
    """Tell whether any thing is a WAY."""
    return isinstance(thing, tuple) and all([is_beat(beat) for beat in thing])


def is_entry(thing):
    """Tell whether any thing is a tuple (BEAT, lot)."""
    return is_tuple_of(2, thing) and is_beat(thing[0]) and is_number_from(1, thing[1])


def is_beats(thing):
    """Tell whether any thing is BEATS."""
    if not isinstance(thing, tuple) or len(thing) == 0:
        return False
    # All have to be looked at before any two are compared: other things have no order.
    if not all([is_entry(entry) for entry in thing]):
        return False
    return all([ahead[0] < entry[0] for ahead, entry in zip(thing, thing[1:])])


def many_in(way):
    """How many COMERS a WAY has."""
    return sum([len(beat) for beat in way])


def work_in(way):
    """How much work the COMERS of a WAY bring."""
    return sum([work for beat in way for rank, work in beat])


def one_more(weighed, works):
    """Each of the weighed BEATs with each COMER of a work that has a LOT, and their LOTS multiplied."""
    return [(beat + ((0, k + 1),), weight * lot)
            for beat, weight in weighed for k, lot in enumerate(works) if lot > 0]


def beats_of(counts, works):
    """The BEATS of how many come in a beat and of each COMER's work, all drawn apart."""
    last = len(counts) - 1
    powers = [1]
    for turn in range(last):
        powers.append(powers[-1] * total(works))
    told, weighed = [], [((), 1)]
    for many, lot in enumerate(counts):
        if many > 0:
            weighed = one_more(weighed, works)
        if lot > 0:
            told += [(beat, lot * weight * powers[last - many]) for beat, weight in weighed]
    return tuple(sorted(told))


def flow_of(beats):
    """The FLOW of how much work a beat of BEATS brings."""
    brought = [(work_in((beat,)), lot) for beat, lot in beats]
    told = [0] * (max([work for work, lot in brought]) + 1)
    for work, lot in brought:
        told[work] += lot
    return tuple(told)
