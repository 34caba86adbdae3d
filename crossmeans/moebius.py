"""Moebius numbers of a list of partings, and the dimensions that follow from them."""

from crossmeans.checks import check_alike, check_index, check_members, check_unequal
from crossmeans.errors import BadShape
from crossmeans.lattice import is_finer
from crossmeans.ratios import as_ratios, product_sum


def zeta(members):
    """1 in row i and column j if member i is finer than member j, otherwise 0."""
    check_members(members)
    return [[1 if is_finer(low, high) else 0 for high in members] for low in members]


def moebius(members):
    """The Moebius numbers, mu[i][j] in row i and column j."""
    below = zeta(members)
    # A strictly finer parting has more lots, so each number comes after all those that it is made of.
    finer_first = [at for _, at in sorted([(-member.many, at) for at, member in enumerate(members)])]
    return [_moebius_row(below, low, finer_first) for low in range(len(members))]


def _moebius_row(below, low, finer_first):
    row = [0] * len(below)
    row[low] = 1
    for high in finer_first:
        # Members that are not coarser than `low` still have 0 here, so they need not be left out.
        if high != low:
            row[high] = -sum([row[at] for at in finer_first if below[at][high]])
    return row


def dimensions(members):
    """For each member the sum of its Moebius numbers times the counts of lots."""
    return [sum([number * member.many for number, member in zip(row, members)]) for row in moebius(members)]


def interval(members, low, high):
    """The indexes of the members between the two, both included."""
    check_unequal(members)
    check_index(len(members), low)
    check_index(len(members), high)
    below = zeta(members)
    return [at for at in range(len(members)) if below[low][at] and below[at][high]]


def sum_up(members, numbers):
    """For each member the sum of the numbers of all coarser members."""
    return _weighed(members, numbers, turned=False)


def turn_back(members, numbers):
    """For each member the sum of its Moebius numbers times the numbers: what `sum_up` came from."""
    return _weighed(members, numbers, turned=True)


def _weighed(members, numbers, turned):
    """For each member the sum of the numbers, each times the member's zeta or Moebius number."""
    check_unequal(members)
    ratios = as_ratios(numbers)
    check_alike(members[0].plots, members)
    if len(ratios) != len(members):
        raise BadShape()
    rows = moebius(members) if turned else zeta(members)
    return [product_sum(row, ratios) for row in rows]
