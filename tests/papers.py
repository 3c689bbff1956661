"""SHARE PAPERS made and looked at a second time, straight by the words of promises 46 and 47."""

from fractions import Fraction

from tests.helpers import plain, replacements, right_fraction, right_stand
from tests.simulation import led, weighed_beats


def mutated(draw, thing):
    """A thing that holds another one in one drawn place."""
    if type(thing) is tuple and thing and draw.random() < 0.75:
        at = draw.randrange(len(thing))
        return thing[:at] + (mutated(draw, thing[at]),) + thing[at + 1:]
    return draw.choice(replacements(thing))


def solved(rows):
    """The numbers that make all these sums right, each row a list of factors and then the sum."""
    rows = [list(row) for row in rows]
    many = len(rows[0]) - 1
    for at in range(many):
        pivot = next(k for k in range(at, len(rows)) if rows[k][at] != 0)
        rows[at], rows[pivot] = rows[pivot], rows[at]
        rows[at] = [each / rows[at][at] for each in rows[at]]
        for k in range(len(rows)):
            if k != at and rows[k][at] != 0:
                rows[k] = [each - rows[k][at] * other for each, other in zip(rows[k], rows[at])]
    return [rows[k][-1] for k in range(many)]


def all_from(house, beats, stands):
    """All stands to which beats lead these, rising."""
    told = set(stands)
    fresh = set(stands)
    while fresh:
        fresh = {led(house, each, beat) for each in fresh for beat, lot in beats} - told
        told |= fresh
    return sorted(told)


def smallest_sets(house, beats, stands):
    """The closed sets among stands within which no lesser one lies, rising."""
    onward = {stand: all_from(house, beats, [stand]) for stand in stands}
    return sorted({tuple(some) for some in onward.values() if all(onward[other] == some for other in some)})


def numbers_to(house, beats, begin, goal):
    """Numbers of beats that lead from one stand to one of the goal, as few as may be."""
    ways, line = {begin: ()}, [begin]
    for ahead in line:
        if ahead in goal:
            return ways[ahead]
        for number, (beat, lot) in enumerate(beats):
            following = led(house, ahead, beat)
            if following not in ways:
                ways[following] = ways[ahead] + (number,)
                line.append(following)


def standing_shares(house, beats, stands):
    """What one beat leaves as it is and what sums to one."""
    rows = []
    for to in stands:
        row = [sum((part for beat, part in weighed_beats(beats) if led(house, stand, beat) == to), Fraction(0))
               for stand in stands]
        rows.append([part - (stand == to) for part, stand in zip(row, stands)] + [Fraction(0)])
    return solved(rows + [[Fraction(1)] * (len(stands) + 1)])


def made_one(house, beats, stands, home):
    """The paper "one" of these stands and this home."""
    shares = tuple(zip(stands, map(plain, standing_shares(house, beats, stands))))
    ways = [numbers_to(house, beats, stand, [home]) for stand in stands]
    return ("one", shares, tuple(way[0] if way else None for way in ways))


def made_paper(draw, house, beats, begin, more=()):
    """A right paper of all stands that are reached from the beginning, and of more ones where it is "one"."""
    sets = smallest_sets(house, beats, all_from(house, beats, [begin]))
    if len(sets) > 1:
        one, other = draw.sample(sets, 2)
        return ("two", one, other) + tuple(numbers_to(house, beats, begin, goal) for goal in (one, other))
    stands = all_from(house, beats, [begin])
    wider = all_from(house, beats, stands + list(more))
    if len(smallest_sets(house, beats, wider)) == 1:
        stands = wider
    return made_one(house, beats, stands, draw.choice(sets[0]))


def right_number_of(beats, thing):
    return type(thing) is int and 0 <= thing < len(beats)


def tuples(*things):
    return all(type(thing) is tuple for thing in things)


def one_entry_right(house, beats, shares, leads, k):
    entry, lead = shares[k], leads[k]
    if not tuples(entry) or len(entry) != 2 or not right_stand(house, entry[0]):
        return False
    if not right_fraction(entry[1]) or Fraction(*entry[1]) < 0:
        return False
    return (k == 0 or shares[k - 1][0] < entry[0]) and (lead is None or right_number_of(beats, lead))


def walked_home(house, beats, stands, leads, stand):
    seen = set()
    while stand not in seen:
        seen.add(stand)
        lead = leads[stands.index(stand)]
        if lead is None:
            return True
        stand = led(house, stand, beats[lead][0])
    return False


def due_of_one(house, beats, begin, shares, leads):
    """All refusals that are due, in their order."""
    for k in range(len(shares)):
        if not one_entry_right(house, beats, shares, leads, k):
            yield ("entry", k)
    if sum(lead is None for lead in leads) != 1:
        yield ("home", -1)
    stands = [stand for stand, share in shares]
    if begin not in stands:
        yield ("begin", -1)
    for k, stand in enumerate(stands):
        if not all(led(house, stand, beat) in stands for beat, lot in beats):
            yield ("closed", k)
    for k, stand in enumerate(stands):
        if not walked_home(house, beats, stands, leads, stand):
            yield ("lead", k)
    brought = dict.fromkeys(stands, 0)
    for stand, share in shares:
        for beat, part in weighed_beats(beats):
            brought[led(house, stand, beat)] += Fraction(*share) * part
    for k, (stand, share) in enumerate(shares):
        if Fraction(*share) != brought[stand]:
            yield ("balance", k)
    if sum(Fraction(*share) for stand, share in shares) != 1:
        yield ("sum", -1)


def leads_there(house, beats, begin, stands, way):
    if not all(right_number_of(beats, number) for number in way):
        return False
    for number in way:
        begin = led(house, begin, beats[number][0])
    return begin in stands


def due_of_two(house, beats, begin, one, other, way, more):
    """All refusals that are due, in their order."""
    for first, stands in ((0, one), (len(one), other)):
        for k, stand in enumerate(stands):
            if not right_stand(house, stand) or (k > 0 and stand <= stands[k - 1]):
                yield ("entry", first + k)
    for k, stand in enumerate(one):
        if stand in other:
            yield ("both", k)
    for first, stands in ((0, one), (len(one), other)):
        for k, stand in enumerate(stands):
            if not all(led(house, stand, beat) in stands for beat, lot in beats):
                yield ("closed", first + k)
    if not leads_there(house, beats, begin, one, way):
        yield ("way", 0)
    if not leads_there(house, beats, begin, other, more):
        yield ("way", 1)


def share_verdict(house, beats, begin, thing):
    """True, or the (word, number) of the first refusal that is due."""
    due = iter([("shape", -1)])
    if tuples(thing) and len(thing) == 3 and thing[0] == "one" and tuples(*thing[1:]):
        if len(thing[1]) == len(thing[2]) and thing[1]:
            due = due_of_one(house, beats, begin, *thing[1:])
    if tuples(thing) and len(thing) == 5 and thing[0] == "two" and tuples(*thing[1:]) and thing[1] and thing[2]:
        due = due_of_two(house, beats, begin, *thing[1:])
    return next(due, True)
