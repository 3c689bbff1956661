"""The checker of SHARE PAPERS: it looks at any thing and seeks nothing."""

from hatchwaits.chances import all_lots, common_bottom, weights_of
from hatchwaits.errors import NoPaper
from hatchwaits.fractions import is_fraction
from hatchwaits.houses import is_stand
from hatchwaits.kinds import is_number, is_tuple_of
from hatchwaits.stepping import step


def is_shaped(word, many, thing):
    """Tell whether a thing is a tuple of a word and so many tuples."""
    if not is_tuple_of(many + 1, thing) or thing[0] != word:
        return False
    return all([isinstance(part, tuple) for part in thing[1:]])


def is_beat_number(beats, thing):
    """Tell whether a thing is the number of one of the BEATS."""
    return is_number(thing) and 0 <= thing < len(beats)


def is_share(house, thing):
    """Tell whether a thing is a tuple (STAND, FRACTION not below nought)."""
    return is_tuple_of(2, thing) and is_stand(house, thing[0]) and is_fraction(thing[1]) and thing[1][0] >= 0


def check_entries(house, beats, shares, leads):
    """Refuse the first entry that is none by its kind or its order."""
    for k, entry in enumerate(shares):
        right = is_share(house, entry) and (leads[k] is None or is_beat_number(beats, leads[k]))
        if not right or (k > 0 and not shares[k - 1][0] < entry[0]):
            raise NoPaper("entry", k)


def led_to(house, beats, stands):
    """For each STAND the places among the STANDS to which the BEATS lead it, None where to none of them."""
    places = {stand: k for k, stand in enumerate(stands)}
    return [[places.get(step(house, stand, beat)[0]) for beat, lot in beats] for stand in stands]


def check_closed(following, number):
    """Refuse the first STAND that a BEAT leads to none of them, the numbers counted from number on."""
    for k, places in enumerate(following):
        if None in places:
            raise NoPaper("closed", number + k)


def comes_home(following, leads, k):
    """Tell whether who goes from place k by the leads comes to the one place without a lead."""
    # Who isn't home by then has been at one place twice and goes round for ever.
    for turn in range(len(leads)):
        if leads[k] is None:
            return True
        k = following[k][leads[k]]
    return False


def check_balance(beats, following, shares):
    """Refuse the first share that is not what one beat brings there, then a sum that isn't one."""
    weights, lots = weights_of(shares), all_lots(beats)
    brought = [0] * len(shares)
    for k, weight in enumerate(weights):
        for number, (beat, lot) in enumerate(beats):
            brought[following[k][number]] += weight * lot
    for k, weight in enumerate(weights):
        if weight * lots != brought[k]:
            raise NoPaper("balance", k)
    if sum(weights) != common_bottom(shares):
        raise NoPaper("sum", -1)


def check_one(house, beats, begin, shares, leads):
    """Refuse what a paper "one" lacks, the first of it."""
    check_entries(house, beats, shares, leads)
    if len([lead for lead in leads if lead is None]) != 1:
        raise NoPaper("home", -1)
    stands = [stand for stand, share in shares]
    if begin not in stands:
        raise NoPaper("begin", -1)
    following = led_to(house, beats, stands)
    check_closed(following, 0)
    for k in range(len(stands)):
        if not comes_home(following, leads, k):
            raise NoPaper("lead", k)
    check_balance(beats, following, shares)


def check_stands(house, stands, number):
    """Refuse the first of a tuple that is no STAND or doesn't rise, the numbers counted from number on."""
    for k, stand in enumerate(stands):
        if not is_stand(house, stand) or (k > 0 and not stands[k - 1] < stand):
            raise NoPaper("entry", number + k)


def check_way(house, beats, begin, stands, way, number):
    """Refuse a way that has something else than numbers of BEATS, or doesn't lead to one of the STANDS."""
    if not all([is_beat_number(beats, each) for each in way]):
        raise NoPaper("way", number)
    stand = begin
    for each in way:
        stand = step(house, stand, beats[each][0])[0]
    if stand not in stands:
        raise NoPaper("way", number)


def check_two(house, beats, begin, one, other, ways):
    """Refuse what a paper "two" lacks, the first of it."""
    check_stands(house, one, 0)
    check_stands(house, other, len(one))
    for k, stand in enumerate(one):
        if stand in other:
            raise NoPaper("both", k)
    check_closed(led_to(house, beats, one), 0)
    check_closed(led_to(house, beats, other), len(one))
    check_way(house, beats, begin, one, ways[0], 0)
    check_way(house, beats, begin, other, ways[1], 1)


def lets_shares(house, beats, begin, thing):
    """True where any thing is a SHARE PAPER for a HOUSE, BEATS and a beginning; else NoPaper."""
    if is_shaped("one", 2, thing) and len(thing[1]) == len(thing[2]) > 0:
        check_one(house, beats, begin, thing[1], thing[2])
    elif is_shaped("two", 4, thing) and len(thing[1]) > 0 and len(thing[2]) > 0:
        check_two(house, beats, begin, thing[1], thing[2], thing[3:])
    else:
        raise NoPaper("shape", -1)
    return True
