"""Papers about two houses made and looked at a second time, straight by the words of promises 70 to 73."""

from tests.helpers import right_stand, right_way
from tests.simulation import House, drawn_beats, drawn_house, drawn_stand

QUESTIONS = ["line", "count", "work", "lost", "gone"]


def one_beat(house, stand, beat):
    """(the stand behind a beat, how many are lost, how many are gone)."""
    body = House(house, stand)
    lost = body.come(beat)
    gone = len(body.work())
    return (body.stand(), lost, gone)


def pair_led(houses, pair, beat):
    return tuple(one_beat(house, stand, beat)[0] for house, stand in zip(houses, pair))


def led_through(houses, pair, way):
    for beat in way:
        pair = pair_led(houses, pair, beat)
    return pair


def so_in(houses, pair, beat, question):
    """Whether "lost" or "gone" holds in a beat from a pair."""
    one, other = (one_beat(house, stand, beat) for house, stand in zip(houses, pair))
    return one[1] == other[1] if question == "lost" else one[2] == other[2]


def so_at(houses, beats, pair, question):
    """Whether a question holds at a pair."""
    if question in ("lost", "gone"):
        return all(so_in(houses, pair, beat, question) for beat, lot in beats)
    one, other = pair
    if question == "work":
        return sum(person[1] for person in one) == sum(person[1] for person in other)
    return len(one) == len(other) or (question == "line" and len(one) < len(other))


def parted_by(houses, begin, question, way):
    """Whether a way parts two houses."""
    if question in ("lost", "gone"):
        return way != () and not so_in(houses, led_through(houses, begin, way[:-1]), way[-1], question)
    return not so_at(houses, (), led_through(houses, begin, way), question)


def all_pairs(houses, beats, begin, most=300):
    """All pairs to which the beginning leads, in the order in which they are found; None where they are too many."""
    told, seen = [begin], {begin}
    for pair in told:
        for beat, lot in beats:
            following = pair_led(houses, pair, beat)
            if following not in seen:
                seen.add(following)
                told.append(following)
        if len(told) > most:
            return None
    return told


def shortest_parting(houses, beats, begin, question, longest=6):
    """A way that parts two houses, the shortest one, by going through all ways; None where there is none so short."""
    ways = [()]
    for turn in range(longest + 1):
        for way in ways:
            if parted_by(houses, begin, question, way):
                return way
        ways = [way + (beat,) for way in ways for beat, lot in beats]
        if len(ways) > 400:
            return None
    return None


def right_pair(houses, thing):
    return (type(thing) is tuple and len(thing) == 2 and right_stand(houses[0], thing[0])
            and right_stand(houses[1], thing[1]))


def due_of_pairs(houses, beats, begin, question, thing):
    """All refusals that are due, in their order."""
    named = type(thing) is tuple and len(thing) == 2 and type(thing[0]) is str and type(thing[1]) is tuple
    if named and thing[0] == "kept" and all(right_pair(houses, pair) for pair in thing[1]):
        if begin not in thing[1]:
            yield ("begin", -1)
        for k, pair in enumerate(thing[1]):
            if not so_at(houses, beats, pair, question):
                yield ("holds", k)
            if not all(pair_led(houses, pair, beat) in thing[1] for beat, lot in beats):
                yield ("leads", k)
    elif named and thing[0] == "parted" and right_way(thing[1]):
        for k, beat in enumerate(thing[1]):
            if beat not in dict(beats):
                yield ("beat", k)
        if not parted_by(houses, begin, question, thing[1]):
            yield ("so", -1)
    else:
        yield ("shape", -1)


def drawn_pair(draw, houses, most=2):
    return tuple(drawn_stand(draw, house, most) for house in houses)


def drawn_houses(draw, most=3):
    """Two houses with at most so many places."""
    return tuple((hands, draw.randint(0, most), rule) for hands, places, rule in (drawn_house(draw), drawn_house(draw)))


def drawn_setting(draw, most=60):
    """(houses, beats, beginning, all pairs to which it leads), at most so many of them; often from both empty."""
    while True:
        houses = drawn_houses(draw)
        beats = drawn_beats(draw, 3, 2, draw.randint(1, 2))
        begin = draw.choice([((), ()), drawn_pair(draw, houses)])
        pairs = all_pairs(houses, beats, begin, most)
        if pairs is not None:
            return houses, beats, begin, pairs
