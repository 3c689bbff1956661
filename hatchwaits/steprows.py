"""STEP ROWS: the STANDING SHARES of a FLOW that rests, one hand, no bound."""

from hatchwaits.cuts import going_above
from hatchwaits.flows import check_rests, lacking
from hatchwaits.fractions import over
from hatchwaits.lots import share_of


def step_row(flow, n):
    """The STANDING SHARES of the WORKS 0 to n; or NoRest."""
    check_rests(flow)
    coming_back = share_of(flow, 0)
    told = [over(lacking(flow), coming_back)]
    for k in range(n):
        told.append(over(going_above(flow, told), coming_back))
    return tuple(told)
