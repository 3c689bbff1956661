"""One beat of a HOUSE: who is let in, whom the rule picks, who is gone."""

from hatchwaits.houses import keeps


def let_in(house, stand, beat):
    """The STAND behind the BEAT's COMERS, nobody picked yet, and how many of them are lost."""
    places = house[1]
    # Nobody leaves between two COMERS, so the first ones come in and all behind them are lost.
    room = len(beat) if places is None else places - len(stand)
    entered = [(rank, work, False) for rank, work in beat[:room]]
    return (stand + tuple(entered), len(beat) - len(entered))


def lined_up(rule, stand):
    """The places of a STAND in the order in which a rule takes those who are not begun."""
    places = list(range(len(stand)))
    if rule in ("last", "lastoff"):
        return places[::-1]
    if rule in ("short", "shortoff"):
        return sorted(places, key=lambda place: stand[place][1])
    if rule in ("front", "frontoff"):
        return sorted(places, key=lambda place: stand[place][0])
    return places


def picked(house, stand):
    """The places of those whom the rule picks from a STAND behind a BEAT's COMERS, rising."""
    hands, places, rule = house
    order = lined_up(rule, stand)
    if keeps(rule):
        order = sorted(order, key=lambda place: not stand[place][2])
    return tuple(sorted(order[:hands]))


def worked(house, stand):
    """What the hands make of a STAND behind a BEAT's COMERS: a tuple (staying, hands_on, gone).

    Staying is a list of (place, PERSON) in the order of the next moment; hands_on and gone are tuples of places of the
    picked and of the gone, rising. All these places are those of the handed STAND."""
    rule = house[2]
    hands_on = picked(house, stand)
    waiting = [(place, person) for place, person in enumerate(stand) if place not in hands_on]
    served, gone = [], []
    for place in hands_on:
        rank, left, begun = stand[place]
        if left > 1:
            served.append((place, (rank, left - 1, keeps(rule))))
        else:
            gone.append(place)
    staying = waiting + served if rule == "turns" else sorted(waiting + served)
    return (staying, hands_on, tuple(gone))


def step(house, stand, beat):
    """What one beat makes of a STAND: (STAND at the next moment, how many are lost, the places of the gone)."""
    filled, lost = let_in(house, stand, beat)
    staying, hands_on, gone = worked(house, filled)
    return (tuple([person for place, person in staying]), lost, gone)
