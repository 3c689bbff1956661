"""SHARE PAPERS told: standing shares, or two closed sets that nothing joins."""

from hatchwaits.chances import NOUGHT, ONE, added, all_lots, led_on
from hatchwaits.errors import NoRest
from hatchwaits.fractions import fraction, over, plus, times
from hatchwaits.reach import closed_sets, ways_from
from hatchwaits.stepping import step


def leads_home(house, beats, stands, home):
    """For each STAND the number of a BEAT by which one comes nearer to HOME, None for HOME, as a dict."""
    leads = {home: None}
    while len(leads) < len(stands):
        for stand in stands:
            for number, (beat, lot) in enumerate(beats):
                if stand not in leads and step(house, stand, beat)[0] in leads:
                    leads[stand] = number
    return leads


def chance_table(house, beats, stands):
    """The chances that one beat leads from each STAND to each, a list of lists."""
    lots = all_lots(beats)
    told = []
    for stand in stands:
        weights = led_on({stand: 1}, beats, lambda each, beat: step(house, each, beat)[0])
        told.append([fraction(weights.get(other, 0), lots) for other in stands])
    return told


def leave_out_last(table, last):
    """Make of chances from each of 0 to last those of who is seen only in 0 to last - 1.

    Behind that table[k][last] tells how often, in the mean, who goes from k is in last until he is seen again."""
    back = added(table[last][:last])
    for k in range(last):
        table[k][last] = over(table[k][last], back)
        for to in range(last):
            table[k][to] = plus(table[k][to], times(table[k][last], table[last][to]))


def balanced(table):
    """The shares that sum to one and that one beat leaves as they are; number 0 is come to from each."""
    # No number is taken from another here, so nothing vanishes that has to be divided by.
    for last in range(len(table) - 1, 0, -1):
        leave_out_last(table, last)
    told = [ONE]
    for k in range(1, len(table)):
        told.append(added([times(share, table[ahead][k]) for ahead, share in enumerate(told)]))
    whole = added(told)
    return [over(share, whole) for share in told]


def paper_of_one(house, beats, stands, home):
    """The paper "one" of reached STANDS, rising, of which each comes HOME."""
    order = [home] + [stand for stand in stands if stand != home]
    shares = dict(zip(order, balanced(chance_table(house, beats, order))))
    leads = leads_home(house, beats, stands, home)
    return ("one", tuple([(stand, shares[stand]) for stand in stands]), tuple([leads[stand] for stand in stands]))


def share_paper(house, beats, begin):
    """A SHARE PAPER for a HOUSE, BEATS and a beginning; or TooMany."""
    ways = ways_from(house, beats, begin)
    found = closed_sets(house, beats, begin)
    if len(found) == 1:
        return paper_of_one(house, beats, sorted(ways), found[0][0])
    one, other = found[0], found[1]
    return ("two", tuple(one), tuple(other), ways[one[0]], ways[other[0]])


def standing(house, beats, begin):
    """The standing ROW; refused with TooMany, or with NoRest where nothing joins two sets."""
    paper = share_paper(house, beats, begin)
    if paper[0] == "two":
        raise NoRest("two")
    return tuple([(stand, share) for stand, share in paper[1] if share != NOUGHT])
