"""What STANDING SHARES of a FLOW have to be, one by one: as much goes above each WORK as comes back."""

from hatchwaits.chances import NOUGHT
from hatchwaits.fractions import fraction, plus, times
from hatchwaits.lots import total


def going_above(flow, shares):
    """By the shares of the WORKS 0 to k, the chance that one beat leads from these above k."""
    told = NOUGHT
    # The WORK that lies back below k + 1 goes above k by back + 1 or more, which a short FLOW never brings.
    for back in range(1, min(len(shares), len(flow) - 2) + 1):
        told = plus(told, times(shares[-back], fraction(sum(flow[back + 1:]), total(flow))))
    return told
