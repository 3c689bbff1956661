"""A hatch: a HOUSE that is told one BEAT after the other."""

from hatchwaits.changes import check_comer
from hatchwaits.comings import many_in
from hatchwaits.errors import NoBeat, NoHouse, TooMany
from hatchwaits.houses import is_places, is_rule
from hatchwaits.kinds import is_number_from, is_tuple_of
from hatchwaits.runs import courses, run

MOST_BEATS = 24
MOST_COMERS = 40


def check_house(thing):
    """Refuse any thing that is no HOUSE, with the first word that is due."""
    if not is_tuple_of(3, thing):
        raise NoHouse("shape")
    hands, places, rule = thing
    if not is_number_from(1, hands):
        raise NoHouse("hands")
    if not is_places(places):
        raise NoHouse("places")
    if not is_rule(rule):
        raise NoHouse("rule")


class Hatch:
    """A HOUSE and a WAY to it, from the empty house on."""

    # All is told anew of the WAY each time: so taking a BEAT back leaves nothing of it behind.

    def __init__(self, thing):
        check_house(thing)
        self.kept_house = thing
        self.kept_way = ()

    def beat(self, beat):
        """Tell it a BEAT: the numbers of who is let in, who is lost, and who is gone; or TooMany."""
        if len(self.kept_way) >= MOST_BEATS:
            raise TooMany("beats")
        came_ahead = many_in(self.kept_way)
        if came_ahead + len(beat) > MOST_COMERS:
            raise TooMany("comers")
        way = self.kept_way + (beat,)
        told = list(enumerate(courses(self.kept_house, way)))
        entered = [number for number, course in told[came_ahead:] if course[0] != "lost"]
        lost = [number for number, course in told[came_ahead:] if course[0] == "lost"]
        gone = [number for number, course in told if course[0] == "gone" and course[2] == len(way)]
        self.kept_way = way
        return (tuple(entered), tuple(lost), tuple(gone))

    def house(self):
        """Its HOUSE."""
        return self.kept_house

    def way(self):
        """Its WAY."""
        return self.kept_way

    def moment(self):
        """How many BEATs its WAY has."""
        return len(self.kept_way)

    def stand(self):
        """The STAND at its moment."""
        return run(self.kept_house, self.kept_way, ())[0][-1]

    def where(self, number):
        """The course of the COMER of this number; or NoComer."""
        check_comer(self.kept_way, number)
        return courses(self.kept_house, self.kept_way)[number]

    def back(self):
        """Take the last BEAT back, and tell it; or NoBeat."""
        if len(self.kept_way) == 0:
            raise NoBeat()
        beat = self.kept_way[-1]
        self.kept_way = self.kept_way[:-1]
        return beat
