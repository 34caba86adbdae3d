"""Designs: treatments that are dealt to plots, by arrangements and to the lots of a parting."""

from math import comb

from crossmeans.autos import check_arrangement, check_arrangements, inverse
from crossmeans.checks import check_amount, check_counts, check_most, is_place
from crossmeans.errors import BadLabel, NoDealing

_MOST_TREATMENTS = 16
_MOST_DEALINGS = 512


def _check_design(design):
    """Raise the errors of a design that stands alone."""
    check_amount(len(design), "plots")
    for at, treatment in enumerate(design):
        if not is_place(_MOST_TREATMENTS, treatment):
            raise BadLabel(at)


def deal_by(arrangement, design):
    """The design that has each treatment at the image of its plot."""
    check_arrangement(arrangement)
    _check_design(design)
    check_counts(len(arrangement), [len(design)])
    return _dealt(arrangement, design)


def _dealt(arrangement, design):
    return tuple([design[plot] for plot in inverse(arrangement)])


def deal_all(arrangements, design):
    """The unequal designs that the arrangements deal, ascending."""
    _check_dealing(arrangements, design)
    return sorted(set([_dealt(arrangement, design) for arrangement in arrangements]))


def fixing(arrangements, design):
    """The arrangements that deal the design into an equal one, in their order."""
    _check_dealing(arrangements, design)
    return [tuple(arrangement) for arrangement in arrangements if _dealt(arrangement, design) == tuple(design)]


def _check_dealing(arrangements, design):
    """Raise the errors of a list of arrangements and a design."""
    check_arrangements(arrangements)
    _check_design(design)
    check_counts(len(arrangements[0]), [len(arrangement) for arrangement in arrangements] + [len(design)])


def lot_dealings(parting, treatments, *, balanced=False):
    """All designs that give one treatment to each lot and each treatment to a lot, ascending."""
    if count_dealings(parting, treatments, balanced=balanced) == 0:
        raise NoDealing()
    choices = 1
    for _ in parting.lots:
        choices = choices * treatments
    check_most(choices, "dealings", _MOST_DEALINGS)
    given = [()]
    for _ in parting.lots:
        given = [taken + (treatment,) for taken in given for treatment in range(treatments)]
    return [_design_of(parting, taken) for taken in given if _uses_all(taken, treatments, balanced)]


def _uses_all(taken, treatments, balanced):
    """True if each treatment is given to a lot; if balanced, each to equally many lots."""
    counts = [taken.count(treatment) for treatment in range(treatments)]
    return min(counts) > 0 and (min(counts) == max(counts) or not balanced)


def _design_of(parting, taken):
    """The design that gives to each lot the treatment that is taken for it."""
    names = [lot[0] for lot in parting.lots]
    return tuple([taken[names.index(name)] for name in parting.names])


def count_dealings(parting, treatments, *, balanced=False):
    """The count of the designs that `lot_dealings` lists."""
    if treatments < 1 or treatments > parting.many:
        return 0
    if balanced:
        return _count_balanced(parting.many, treatments)
    # Entry k counts the ways to give exactly k of the treatments to the lots so far.
    ways = [1] + [0] * treatments
    for _ in parting.lots:
        new = [ways[k - 1] * (treatments - k + 1) for k in range(1, treatments + 1)]
        ways = [0] + [ways[k] * k + more for k, more in enumerate(new, 1)]
    return ways[treatments]


def _count_balanced(lots, treatments):
    share, rest = divmod(lots, treatments)
    if rest != 0:
        return 0
    count = 1
    for treatment in range(treatments):
        count = count * comb(lots - treatment * share, share)
    return count
