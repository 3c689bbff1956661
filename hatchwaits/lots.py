"""FLOWS: tuples of LOTS, number k the LOT of k."""

from hatchwaits.fractions import fraction, mean_of
from hatchwaits.kinds import is_number_from


def is_flow(thing):
    """Tell whether any thing is a FLOW."""
    if not isinstance(thing, tuple) or len(thing) == 0:
        return False
    return all([is_number_from(0, lot) for lot in thing]) and thing[-1] > 0


def total(flow):
    """The sum of the LOTS of a FLOW."""
    return sum(flow)


def share_of(flow, k):
    """The chance of k, nought where the FLOW has no number k."""
    if not 0 <= k < len(flow):
        return (0, 1)
    return fraction(flow[k], total(flow))


def mean(flow):
    """The mean of a FLOW."""
    return mean_of(list(enumerate(flow)))


def second(flow):
    """The mean of the squares of a FLOW."""
    return mean_of([(k * k, lot) for k, lot in enumerate(flow)])


def folded(flow, other):
    """The FLOW of the sum of two that are drawn apart."""
    told = [0] * (len(flow) + len(other) - 1)
    for i, lot in enumerate(flow):
        for j, more in enumerate(other):
            told[i + j] += lot * more
    return tuple(told)


def times_over(flow, n):
    """The FLOW folded n times over, (1,) of none."""
    told = (1,)
    for turn in range(n):
        told = folded(told, flow)
    return told
