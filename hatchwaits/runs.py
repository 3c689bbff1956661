"""Whole WAYS: the run of a HOUSE, the courses of its COMERS, and draining."""

from hatchwaits.stepping import let_in, step, worked


def run(house, way, stand):
    """The run from a STAND on: (STANDS at the moments, lost in each beat, gone behind each beat)."""
    stands, lost, gone = [stand], [], []
    for beat in way:
        following, turned_away, places = step(house, stands[-1], beat)
        stands.append(following)
        lost.append(turned_away)
        gone.append(len(places))
    return (tuple(stands), tuple(lost), tuple(gone))


def after_beat(course, waited, gone_at):
    """The course of one who was in the house, behind one more beat; gone_at is None where he stays."""
    word, beat, waits = course
    waits += 1 if waited else 0
    if gone_at is None:
        return (word, beat, waits)
    return ("gone", beat, gone_at, waits)


def courses(house, way):
    """The courses of a WAY's COMERS, by their numbers, from the empty house on."""
    told = []
    # Inside holds the numbers of those in the stand, place by place.
    stand, inside = (), []
    for at, beat in enumerate(way):
        filled, lost = let_in(house, stand, beat)
        entered = len(beat) - lost
        inside += list(range(len(told), len(told) + entered))
        told += [("in", at, 0)] * entered + [("lost", at)] * lost
        staying, hands_on, gone = worked(house, filled)
        for place, number in enumerate(inside):
            told[number] = after_beat(told[number], place not in hands_on, at + 1 if place in gone else None)
        inside = [inside[place] for place, person in staying]
        stand = tuple([person for place, person in staying])
    return told


def drained(house, way):
    """The WAY with the fewest void BEATS behind it with which the house is empty at the last moment."""
    stand = run(house, way, ())[0][-1]
    voids = 0
    while len(stand) > 0:
        stand = step(house, stand, ())[0]
        voids += 1
    return way + ((),) * voids
