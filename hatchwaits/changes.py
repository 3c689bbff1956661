"""WAYS changed, with the numbers that their COMERS had ahead of the change; and courses compared."""

from hatchwaits.comings import many_in
from hatchwaits.errors import NoBeat, NoComer

NEW = -1


def numbered(way):
    """The BEATs of a WAY as lists of (COMER, number)."""
    rows = []
    number = 0
    for beat in way:
        rows.append([(comer, number + place) for place, comer in enumerate(beat)])
        number += len(beat)
    return rows


def told_way(rows):
    """The (WAY, numbers) of lists of (COMER, number), one for each BEAT."""
    way = tuple([tuple([comer for comer, number in row]) for row in rows])
    return (way, tuple([number for row in rows for comer, number in row]))


def with_comer(way, beat, place, comer):
    """The WAY with one COMER more, at a place of a BEAT, and who is who in it."""
    if not 0 <= beat < len(way):
        raise NoBeat()
    rows = numbered(way)
    rows[beat] = rows[beat][:place] + [(comer, NEW)] + rows[beat][place:]
    return told_way(rows)


def check_comer(way, number):
    """Refuse a number that no COMER of a WAY has."""
    if not 0 <= number < many_in(way):
        raise NoComer(number)


def without(way, number):
    """The WAY without the COMER of a number, and who is who in it."""
    check_comer(way, number)
    return told_way([[entry for entry in row if entry[1] != number] for row in numbered(way)])


def longer(way, number, more):
    """The WAY with a greater work of the COMER of a number, and who is who in it."""
    check_comer(way, number)
    rows = []
    for row in numbered(way):
        rows.append([((rank, work + more if each == number else work), each) for (rank, work), each in row])
    return told_way(rows)


def front_alone(way):
    """The WAY without the COMERS of rank 1, and who is who in it."""
    return told_way([[entry for entry in row if entry[0][0] == 0] for row in numbered(way)])


def goes_later(course, other):
    """Tell whether one who is gone by the other course goes later, or is still in, by the first one."""
    if other[0] != "gone":
        return False
    return course[0] == "in" or (course[0] == "gone" and course[2] > other[2])


def later(one, other):
    """The numbers of those who go later by the one list of courses than by the other."""
    return [number for number, course in enumerate(one) if goes_later(course, other[number])]
