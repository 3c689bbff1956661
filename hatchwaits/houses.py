"""HOUSES, their rules, and the STANDS of those who are in them."""

from hatchwaits.kinds import is_number_from, is_rank, is_tuple_of

KEEPING = ("first", "last", "short", "front")
BREAKING_OFF = ("lastoff", "shortoff", "frontoff", "turns")


def words():
    """The eight words of rules, those that keep ahead of those that break off."""
    return list(KEEPING + BREAKING_OFF)


def keeps(rule):
    """Tell whether a rule keeps."""
    return rule in KEEPING


def is_places(thing):
    """Tell whether any thing tells the places of a HOUSE: a NUMBER, or None where there is no bound."""
    return thing is None or is_number_from(0, thing)


def is_rule(thing):
    """Tell whether any thing is one of the eight words of rules."""
    return isinstance(thing, str) and thing in words()


def is_house(thing):
    """Tell whether any thing is a HOUSE."""
    return is_tuple_of(3, thing) and is_number_from(1, thing[0]) and is_places(thing[1]) and is_rule(thing[2])


def is_person(thing):
    """Tell whether any thing is a PERSON."""
    if not is_tuple_of(3, thing):
        return False
    rank, left, begun = thing
    return is_rank(rank) and is_number_from(1, left) and isinstance(begun, bool)


def is_stand(house, thing):
    """Tell whether any thing is a STAND of a HOUSE."""
    if not isinstance(thing, tuple) or not all([is_person(person) for person in thing]):
        return False
    hands, places, rule = house
    if places is not None and len(thing) > places:
        return False
    begun = len([person for person in thing if person[2]])
    return begun <= (hands if keeps(rule) else 0)


def work_left(stand):
    """The WORK of a STAND."""
    return sum([left for rank, left, begun in stand])


def in_hand(house, stand):
    """How many are picked from a STAND of a HOUSE."""
    return min(house[0], len(stand))
