"""One beat told a second time, by persons who keep who they are, and random houses, stands and ways."""

import itertools
import math
from fractions import Fraction

from tests.helpers import KEEPING, RULES, chance, plain


class Body:
    """One who comes to a house, lost or let in."""

    def __init__(self, rank, left, begun, beat):
        self.rank, self.left, self.begun, self.beat = rank, left, begun, beat
        self.lost, self.gone_at, self.waits = False, None, 0

    def person(self):
        return (self.rank, self.left, self.begun)

    def course(self):
        if self.lost:
            return ("lost", self.beat)
        if self.gone_at is None:
            return ("in", self.beat, self.waits)
        return ("gone", self.beat, self.gone_at, self.waits)


def choose_one(rule, line):
    if rule.startswith("last"):
        return line[-1]
    if rule.startswith("short"):
        return min(line, key=lambda body: body.left)
    if rule.startswith("front"):
        return min(line, key=lambda body: body.rank)
    return line[0]


def choose(house, line):
    hands, places, rule = house
    chosen = [body for body in line if rule in KEEPING and body.begun]
    while len(chosen) < hands and len(chosen) < len(line):
        chosen.append(choose_one(rule, [body for body in line if body not in chosen]))
    return chosen


class House:
    """A house that is led through beats, with all that may be asked of it."""

    def __init__(self, house, stand):
        self.house, self.moment = house, 0
        self.line = [Body(rank, left, begun, None) for rank, left, begun in stand]
        self.bodies = []

    def stand(self):
        return tuple(body.person() for body in self.line)

    def come(self, beat):
        """Let the comers in; how many are lost."""
        lost = 0
        for rank, work in beat:
            body = Body(rank, work, False, self.moment)
            self.bodies.append(body)
            if self.house[1] is None or len(self.line) < self.house[1]:
                self.line.append(body)
            else:
                body.lost = True
                lost += 1
        return lost

    def places_picked(self):
        chosen = choose(self.house, self.line)
        return tuple(place for place, body in enumerate(self.line) if body in chosen)

    def work(self):
        """The hands' part of the beat; the places of the gone."""
        chosen, ahead = choose(self.house, self.line), list(self.line)
        self.moment += 1
        for body in ahead:
            if body not in chosen:
                body.waits += 1
                continue
            body.left -= 1
            body.begun = self.house[2] in KEEPING
            if body.left == 0:
                body.gone_at = self.moment
                self.line.remove(body)
            elif self.house[2] == "turns":
                self.line.remove(body)
                self.line.append(body)
        return tuple(place for place, body in enumerate(ahead) if body.gone_at is not None)


def simulated_run(house, way, stand):
    led = House(house, stand)
    stands, lost, gone = [stand], [], []
    for beat in way:
        lost.append(led.come(beat))
        gone.append(len(led.work()))
        stands.append(led.stand())
    return (tuple(stands), tuple(lost), tuple(gone))


def simulated_courses(house, way):
    led = House(house, ())
    for beat in way:
        led.come(beat)
        led.work()
    return [body.course() for body in led.bodies]


def drawn_house(draw, rule=None):
    return (draw.randint(1, 3), draw.choice([None, draw.randint(0, 6)]), rule or draw.choice(RULES))


def drawn_stand(draw, house, most=8):
    hands, places, rule = house
    many = draw.randint(0, most if places is None else min(most, places))
    begun = [False] * many
    if rule in KEEPING:
        for place in draw.sample(range(many), draw.randint(0, min(hands, many))):
            begun[place] = True
    return tuple((draw.randint(0, 1), draw.randint(1, 6), begun[place]) for place in range(many))


def drawn_beat(draw, comers=3, work=6):
    return tuple((draw.randint(0, 1), draw.randint(1, work)) for k in range(draw.randint(0, comers)))


def drawn_way(draw, beats=12, comers=3, work=6):
    return tuple(drawn_beat(draw, comers, work) for k in range(draw.randint(0, beats)))


def houses_and_ways(seed, turns, beats=12, comers=3, work=6):
    """Each rule with houses and ways of all sorts, slack ones and crowded ones."""
    draw = chance(seed)
    told = []
    for turn in range(turns):
        for rule in RULES:
            way = drawn_way(draw, beats, draw.randint(1, comers), draw.randint(1, work))
            told.append((drawn_house(draw, rule), way))
    return told


def ways(seed, turns, beats=12, comers=3, work=6):
    """The void way, ways of void beats, and drawn ones."""
    draw = chance(seed)
    told = [(), ((),), ((), ()), (((0, 1),),), (((1, 1),),), ((), ((0, 2), (1, 3)), ())]
    return told + [drawn_way(draw, beats, draw.randint(1, comers), draw.randint(1, work)) for turn in range(turns)]


# As many BEATs and COMERS as the bounds let a WAY have, 24 and forty.
LONGEST = (((0, 6), (1, 6), (0, 1)),) * 8 + ((),) * 8 + (((1, 5), (0, 4)),) * 8


def led(house, stand, beat):
    """The stand behind a beat."""
    told = House(house, stand)
    told.come(beat)
    told.work()
    return told.stand()


def drawn_beats(draw, beats=6, comers=2, work=3, least=0):
    """BEATS of at most so many beats, each of at least so many comers."""
    unlike = {tuple((draw.randint(0, 1), draw.randint(1, work)) for k in range(draw.randint(least, comers)))
              for turn in range(draw.randint(1, beats))}
    return tuple((beat, draw.randint(1, 12)) for beat in sorted(unlike))


def drawn_row(draw, house, stands=5, most=4):
    """A ROW of at most so many stands, some of its shares alike."""
    unlike = sorted({drawn_stand(draw, house, most) for turn in range(draw.randint(1, stands))})
    lots = [draw.randint(1, 6) for stand in unlike]
    return tuple((stand, plain(Fraction(lot, sum(lots)))) for stand, lot in zip(unlike, lots))


def even_row(stands):
    """The ROW that has all these stands, one as likely as the other."""
    return tuple((stand, (1, len(stands))) for stand in sorted(stands))


def weighed_beats(beats):
    """Each beat with its chance."""
    lots = sum(lot for beat, lot in beats)
    return [(beat, Fraction(lot, lots)) for beat, lot in beats]


def weighed_ways(beats, t):
    """Each way of t beats with its chance."""
    for entries in itertools.product(weighed_beats(beats), repeat=t):
        chances = [chance_of for beat, chance_of in entries]
        yield tuple(beat for beat, chance_of in entries), math.prod(chances, start=Fraction(1))


def greatest(beats):
    """The greatest work that comes, 0 where nobody does."""
    return max([work for beat, lot in beats for rank, work in beat] + [0])


def stuck_beats(works=(1,)):
    """BEATS that leave an empty house of one hand and two places, under a rule that takes the last one, with one who
    waits for ever: two come in each beat, the first one of another sort in each."""
    return tuple((((rank, work), (rank, work)), 1 + rank + work) for rank in (0, 1) for work in works)


def drawn_flows(seed, turns):
    """FLOWS of all sorts, with noughts and without."""
    draw = chance(seed)
    told = [(1,), (7,), (0, 1), (0, 0, 3), (1, 0, 1), (2, 2), (6, 3, 1), (0, 0, 0, 0, 12), (12,) * 9, (0, 5, 0, 0, 10)]
    told += [(0, 12), (5, 0, 5), (3, 1, 3), (4, 0, 1, 1), (12, 0, 0, 0, 0, 0, 0, 0, 1), (12, 12), (9, 1, 1, 1), (2, 0, 0, 1)]
    for turn in range(turns):
        lots = tuple(draw.choice([0, draw.randint(0, 12)]) for k in range(draw.randint(0, 4)))
        told.append((draw.choice([0, 2, 12, 12]),) + lots + (draw.randint(1, 12),))
    return told


def word_for(flow, hands):
    """The word of a FLOW and hands."""
    more = sum(lot * (k - hands) for k, lot in enumerate(flow))
    if more != 0:
        return "runs" if more > 0 else "rests"
    return "still" if [k for k, lot in enumerate(flow) if lot] == [hands] else "swings"


def sorted_flows(seed, turns=60, hands=1):
    """Drawn FLOWS by their words with so many hands, some of which bring little less than the hands at least."""
    told = {"rests": [], "runs": [], "swings": [], "still": []}
    for flow in drawn_flows(seed, turns):
        for lots in sorted({flow, (0,) * (hands - 1) + flow}):
            told[word_for(lots, hands)].append(lots)
    return told


def chances_of(flow):
    """The numbers that a FLOW may bring, each with its chance."""
    return [(k, Fraction(lot, sum(flow))) for k, lot in enumerate(flow) if lot > 0]


def one_beat_of_work(work, brought):
    """The work at the next moment, one hand, no bound."""
    return work + brought - 1 if work + brought > 0 else 0
