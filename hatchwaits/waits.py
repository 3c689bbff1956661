"""How long one COMER more waits under "first", by chances."""

from hatchwaits.chances import common_bottom, spread, weights_of
from hatchwaits.fractions import fraction
from hatchwaits.houses import in_hand
from hatchwaits.stepping import let_in

# Neither his rank nor his work turns how long he waits.
NEWCOMER = (0, 1)


def beats_waited(house, stand):
    """In how many beats the last PERSON of a STAND, who is not begun, waits under "first"."""
    # Each hand's number tells in which beat it is free; more hands than are picked from are free at once.
    free = [0] * in_hand(house, stand)
    for rank, left, begun in sorted(stand[:-1], key=lambda person: not person[2]):
        free = sorted([free[0] + left] + free[1:])
    return free[0]


def wait_row(house, row):
    """The chances that one COMER more is let in and waits just k beats, as a list; and that he is lost."""
    bottom = common_bottom(row)
    lost, pairs = 0, []
    for (stand, share), weight in zip(row, weights_of(row)):
        filled, turned_away = let_in(house, stand, (NEWCOMER,))
        if turned_away > 0:
            lost += weight
        else:
            pairs.append((beats_waited(house, filled), weight))
    return (spread(pairs, bottom), fraction(lost, bottom))
