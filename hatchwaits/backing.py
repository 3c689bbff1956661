"""BACK PAPERS told, and the bound that they give."""

from hatchwaits.backchecker import greatest_work, height
from hatchwaits.comings import flow_of
from hatchwaits.errors import NoRest
from hatchwaits.flows import word_of
from hatchwaits.fractions import minus, over
from hatchwaits.lots import mean


def back_paper(beats, hands, most):
    """A BACK PAPER of BEATS and hands with at least most heights; or NoRest."""
    flow = flow_of(beats)
    word = word_of(flow, hands)
    if word != "rests":
        raise NoRest(word)
    # By heights that are just what is left all steps are 1, so all that the mean lacks to the hands is left to drop.
    many = max(1, most, greatest_work(beats))
    return (minus((hands, 1), mean(flow)), tuple([(k + 1, 1) for k in range(many)]))


def back_bound(paper, stand):
    """The BOUND of the mean beats until a STAND has fewer PERSONS than hands."""
    return over(height(paper, stand), paper[0])
