"""The checker of BACK PAPERS, and the HEIGHTS that they give: it looks at any thing and seeks nothing."""

from hatchwaits.chances import NOUGHT, added, all_lots
from hatchwaits.errors import NoPaper
from hatchwaits.fractions import is_fraction, less, minus, over, plus, times
from hatchwaits.kinds import is_tuple_of


def greatest_work(beats):
    """The greatest work of a COMER of BEATS, 0 where none comes."""
    return max([work for beat, lot in beats for rank, work in beat], default=0)


def is_shaped_back(beats, thing):
    """Tell whether a thing is a tuple of a FRACTION and a tuple of FRACTIONS, as many as the BEATS need."""
    if not is_tuple_of(2, thing) or not is_fraction(thing[0]) or not isinstance(thing[1], tuple):
        return False
    return len(thing[1]) >= max(1, greatest_work(beats)) and all([is_fraction(part) for part in thing[1]])


def steps_of(heights):
    """What each of the heights is above the one ahead of it, the first one above nought."""
    return [minus(height_here, ahead) for ahead, height_here in zip((NOUGHT,) + heights, heights)]


def least(parts):
    """The least of one FRACTION or more."""
    told = parts[0]
    for part in parts:
        if less(part, told):
            told = part
    return told


def mean_height(beats, heights):
    """The mean of the HEIGHTS of the works of all COMERS of a beat, added."""
    # Lots of like works are added first: there are far fewer works than COMERS, and heights may have many figures.
    lots = {}
    for beat, lot in beats:
        for rank, work in beat:
            lots[work] = lots.get(work, 0) + lot
    weighed = [times((lot, 1), heights[work - 1]) for work, lot in lots.items()]
    return over(added(weighed), (all_lots(beats), 1))


def lets_back(beats, hands, thing):
    """True where any thing is a BACK PAPER of BEATS and hands; else NoPaper."""
    if not is_shaped_back(beats, thing):
        raise NoPaper("shape", -1)
    drop, heights = thing
    if not less(NOUGHT, drop):
        raise NoPaper("drop", -1)
    steps = steps_of(heights)
    for k, rise in enumerate(steps):
        if not less(NOUGHT, rise):
            raise NoPaper("step", k)
    if less(times((hands, 1), least(steps)), plus(mean_height(beats, heights), drop)):
        raise NoPaper("fall", -1)
    return True


def height(paper, stand):
    """The HEIGHT of a STAND by a BACK PAPER."""
    drop, heights = paper
    return added([heights[left - 1] for rank, left, begun in stand])
