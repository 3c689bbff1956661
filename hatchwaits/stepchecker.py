"""The checker of STEP PAPERS: it looks at any thing and seeks nothing."""

from hatchwaits.cuts import going_above
from hatchwaits.errors import NoPaper
from hatchwaits.flows import lacking, word_of
from hatchwaits.fractions import is_fraction, times
from hatchwaits.lots import share_of


def check_shape(thing):
    """Refuse what is no tuple of one FRACTION or more."""
    if not isinstance(thing, tuple) or len(thing) == 0:
        raise NoPaper("shape", -1)
    for k, part in enumerate(thing):
        if not is_fraction(part):
            raise NoPaper("shape", k)


def lets_steps(flow, thing):
    """True where any thing is a STEP PAPER of a FLOW; else NoPaper."""
    check_shape(thing)
    if word_of(flow, 1) != "rests":
        raise NoPaper("rest", -1)
    coming_back = share_of(flow, 0)
    if times(thing[0], coming_back) != lacking(flow):
        raise NoPaper("first", 0)
    for k in range(1, len(thing)):
        if times(thing[k], coming_back) != going_above(flow, thing[:k]):
            raise NoPaper("cut", k)
    return True
