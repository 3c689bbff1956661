"""Whether a house without bound rests by its FLOW, and the means where it does."""

from hatchwaits.chances import ONE
from hatchwaits.errors import NoRest
from hatchwaits.fractions import less, minus, over, times
from hatchwaits.lots import mean, second, share_of


def word_of(flow, hands):
    """The WORD of a FLOW and hands."""
    brought, most = mean(flow), (hands, 1)
    if less(brought, most):
        return "rests"
    if less(most, brought):
        return "runs"
    return "still" if share_of(flow, hands) == ONE else "swings"


def check_rests(flow):
    """Refuse a FLOW that doesn't rest by one hand, with its WORD."""
    word = word_of(flow, 1)
    if word != "rests":
        raise NoRest(word)


def lacking(flow):
    """What the mean of a FLOW lacks to 1."""
    return minus(ONE, mean(flow))


def empty_mean(flow, w):
    """The mean of the moment at which the house is empty, from a WORK w; or NoRest."""
    check_rests(flow)
    return over((w, 1), lacking(flow))


def mean_standing(flow):
    """The mean of the standing WORK; or NoRest."""
    check_rests(flow)
    return over(minus(second(flow), mean(flow)), times((2, 1), lacking(flow)))
