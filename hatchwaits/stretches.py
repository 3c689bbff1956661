"""Busy stretches of a WAY, and what adds up between two moments at which the house is empty."""

from hatchwaits.houses import in_hand
from hatchwaits.runs import courses, run
from hatchwaits.stepping import let_in


def busy_stretches(house, way):
    """The stretches of a WAY: tuples (begin, end), rising, end None where the house isn't empty again."""
    stands, lost, gone = run(house, way, ())
    told = []
    begin = None
    for at, beat in enumerate(way):
        if begin is None and len(beat) > lost[at]:
            begin = at
        if begin is not None and len(stands[at + 1]) == 0:
            told.append((begin, at + 1))
            begin = None
    if begin is not None:
        told.append((begin, None))
    return told


def sums(house, way, begin, end):
    """(stays, present, waits, unpicked), added between two moments at which the house is empty."""
    # All who were let in between are gone at the second moment, the house being empty then.
    between = [course for course in courses(house, way) if course[0] == "gone" and begin <= course[1] < end]
    stays = sum([moment - beat for word, beat, moment, waits in between])
    waited = sum([waits for word, beat, moment, waits in between])
    stands = run(house, way, ())[0]
    filled = [let_in(house, stands[at], way[at])[0] for at in range(begin, end)]
    present = sum([len(stand) for stand in filled])
    unpicked = sum([len(stand) - in_hand(house, stand) for stand in filled])
    return (stays, present, waited, unpicked)
