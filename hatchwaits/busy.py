"""How long a house without bound is busy, one hand, by chances."""

from hatchwaits.chances import NOUGHT, ONE, added
from hatchwaits.errors import NoRest
from hatchwaits.fractions import fraction, minus, times
from hatchwaits.lots import folded, share_of, total


def brought_by(flow, many):
    """For 0 beats, 1 beat and so on, so many of them: the LOTS of what they bring, below many, and the sum of all."""
    told = []
    brought, lots = (1,), 1
    for k in range(many):
        told.append((brought, lots))
        # As much as many or more is never asked for, so a long FLOW needn't be folded whole.
        brought = folded(brought, flow[:many])[:many]
        lots *= total(flow)
    return told


def empty_at(k, brought, lots, w):
    """The chance that the house is EMPTY AT k, from a WORK w, by the LOTS of k beats and their sum."""
    if k == 0:
        return ONE if w == 0 else NOUGHT
    # Of the orders in which k beats bring just k less w, w in k come to 0 at k for the first time.
    lot = brought[k - w] if 0 <= k - w < len(brought) else 0
    return fraction(w * lot, k * lots)


def with_missing(row):
    """A row of chances as a tuple, and what they lack to one."""
    return (tuple(row), minus(ONE, added(row)))


def busy_row(flow, w, n):
    """The BUSY ROW of a FLOW, a WORK w and n: a tuple (row, missing)."""
    return with_missing([empty_at(k, brought, lots, w) for k, (brought, lots) in enumerate(brought_by(flow, n + 1))])


def first_busy(flow, n):
    """The FIRST BUSY ROW of a FLOW and n: a tuple (row, missing); or NoRest."""
    if len(flow) == 1:
        raise NoRest("never")
    # By a beat that brings x, known to be above 0, the WORK at moment 1 is x less 1.
    at_one = flow[1:]
    row = [NOUGHT]
    for k, (brought, lots) in enumerate(brought_by(flow, n)):
        row.append(added([times(share_of(at_one, w), empty_at(k, brought, lots, w)) for w in range(len(at_one))]))
    return with_missing(row)
