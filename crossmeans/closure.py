"""Closures of partings by joins, their order, and what a list of partings is closed by."""

from crossmeans.checks import check_members, check_most, check_partings
from crossmeans.lattice import is_strictly_finer, join_all
from crossmeans.meetings import all_orthogonal
from crossmeans.partings import Parting


def closure(partings, *, top=True, bottom=False):
    """The joins of one or more of the partings, each once, in closure order."""
    check_partings(partings)
    plots = partings[0].plots
    listed = list(partings)
    if top:
        listed.append(Parting.one(plots))
    if bottom:
        listed.append(Parting.single(plots))
    members = []
    for parting in listed:
        members = _in_order(members + [parting] + [parting | member for member in members])
        # Members are never lost, so a long list is refused before it grows.
        check_most(len(members), "members")
    return members


def _in_order(partings):
    """The partings in closure order, equal ones once."""
    found = {parting.names: parting for parting in partings}
    return sorted(list(found.values()), key=_closure_place)


def _closure_place(parting):
    return (parting.many, parting.names)


def order_members(partings):
    """The listed partings in closure order, equal ones once."""
    check_partings(partings)
    return _in_order(partings)


def closed_by_joins(partings):
    """True if the join of each two partings is equal to an entry of the list."""
    check_partings(partings)
    return all([(left | right) in partings for left in partings for right in partings])


def closed_by_meets(partings):
    """True if the meet of each two partings is equal to an entry of the list."""
    check_partings(partings)
    return all([(left & right) in partings for left in partings for right in partings])


def needed(partings):
    """The indexes of the partings that are not joins of strictly finer ones; of equal ones the first."""
    check_partings(partings)
    return [at for at in range(len(partings)) if _is_needed(partings, at)]


def _is_needed(partings, at):
    parting = partings[at]
    if parting in partings[:at]:
        return False
    finer = [other for other in partings if is_strictly_finer(other, parting)]
    return len(finer) == 0 or join_all(finer) != parting


def covers(members):
    """A tuple (low, high) of indexes for each strictly finer and coarser member with none between them."""
    check_members(members)
    below = [[is_strictly_finer(low, high) for high in members] for low in members]
    places = list(range(len(members)))
    pairs = [(low, high) for low in places for high in places if below[low][high]]
    return [(low, high) for low, high in pairs if not any([below[low][at] and below[at][high] for at in places])]


def is_block_structure(partings):
    """True if the list has both trivial partings, is closed by joins and is pairwise orthogonal."""
    check_partings(partings)
    plots = partings[0].plots
    if Parting.one(plots) not in partings or Parting.single(plots) not in partings:
        return False
    return closed_by_joins(partings) and all_orthogonal(partings)


def is_simple(partings):
    """True if the list is a block structure, closed by meets, with uniform partings only."""
    if not is_block_structure(partings) or not closed_by_meets(partings):
        return False
    return all([parting.is_uniform() for parting in partings])
