"""The checker of RUN PAPERS: it looks at any thing and seeks nothing."""

from hatchwaits.chances import NOUGHT, ONE
from hatchwaits.errors import NoPaper
from hatchwaits.fractions import is_fraction, less, power
from hatchwaits.lots import total


def mean_power(flow, z):
    """The mean of z to the power of what a beat brings: a tuple (top, bottom), perhaps not in lowest terms."""
    # All is brought over one bottom, since lowest terms of many figures take long and nobody needs them here.
    top, bottom = z
    weighed, below = 0, 1
    for lot in flow[::-1]:
        weighed = weighed * top + lot * below
        below *= bottom
    return (weighed * bottom, total(flow) * below)


def rises(flow, hands, z):
    """Tell whether the mean of z to the power of what a beat brings is more than z to the power of the hands."""
    return less(power(z, hands), mean_power(flow, z))


def lets_run(flow, hands, thing):
    """True where any thing is a RUN PAPER of a FLOW and hands; else NoPaper."""
    if not is_fraction(thing):
        raise NoPaper("shape", -1)
    if not less(NOUGHT, thing) or not less(thing, ONE):
        raise NoPaper("between", -1)
    if rises(flow, hands, thing):
        raise NoPaper("rises", -1)
    return True
