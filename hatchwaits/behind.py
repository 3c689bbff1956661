"""HOUSES behind one another: who is gone from the first one comes to the second."""

from hatchwaits.changes import told_way
from hatchwaits.runs import courses, drained


def gone_way(house, way, works):
    """The WAY of those who are gone from a HOUSE, with the works told for them, and who is who in it."""
    comers = [comer for beat in way for comer in beat]
    ended = courses(house, drained(house, way))
    last = max([course[2] for course in ended if course[0] == "gone"], default=-1)
    rows = [[] for moment in range(last + 1)]
    for number, course in enumerate(ended):
        if course[0] == "gone":
            rows[course[2]].append(((comers[number][0], works[number]), number))
    return told_way(rows)


def through(houses, way, works):
    """Each COMER's courses in two HOUSES, None in the second where he is lost in the first."""
    first, second = houses
    way_on, numbers = gone_way(first, way, works)
    courses_on = dict(zip(numbers, courses(second, drained(second, way_on))))
    return [(course, courses_on.get(number)) for number, course in enumerate(courses(first, drained(first, way)))]
