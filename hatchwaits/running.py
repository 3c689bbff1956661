"""RUN PAPERS told, and the bound that they give."""

from hatchwaits.errors import NoRest
from hatchwaits.flows import word_of
from hatchwaits.fractions import power
from hatchwaits.runchecker import rises


def run_paper(flow, hands):
    """A RUN PAPER of a FLOW and hands; or NoRest."""
    word = word_of(flow, hands)
    if word not in ("runs", "still"):
        raise NoRest(word)
    # Where it runs the mean falls below at z a little less than 1, so coming nearer to 1 finds one.
    bottom = 2
    while rises(flow, hands, (bottom - 1, bottom)):
        bottom *= 2
    return (bottom - 1, bottom)


def ever_bound(paper, w):
    """The BOUND of the chance that a house is ever empty from a WORK w on."""
    return power(paper, w)
