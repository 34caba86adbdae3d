"""Strata: a table split into pieces that belong to the members of an orthogonal closure."""

from crossmeans.checks import check_alike, check_index, check_unequal
from crossmeans.closure import closure
from crossmeans.errors import NotOrthogonal
from crossmeans.lattice import is_strictly_finer
from crossmeans.matrices import identity, matrix_scale, matrix_sum, projector
from crossmeans.meetings import pair_breaks
from crossmeans.moebius import dimensions, moebius
from crossmeans.ratios import over, product_sum
from crossmeans.tables import is_constant, means, table_sum, weighted_sum


class Strata:
    """The strata of the closure of pairwise orthogonal partings."""

    def __init__(self, partings, *, top=True, bottom=True):
        members = closure(partings, top=top, bottom=bottom)
        breaks = pair_breaks(partings)
        if breaks:
            raise NotOrthogonal(breaks[0][0], breaks[0][1])
        self.plots = members[0].plots
        self.many = len(members)
        self.members = tuple(members)
        self.dimensions = tuple(dimensions(members))
        # The Moebius numbers of the members, a tuple of tuples.
        self.mu = tuple([tuple(row) for row in moebius(members)])

    def place(self, parting):
        """The index of the member that is equal to the parting, or None."""
        check_alike(self.plots, [parting])
        places = [at for at, member in enumerate(self.members) if member == parting]
        return places[0] if places else None

    def piece(self, at, table):
        """The piece of the table at the member, a table."""
        check_index(self.many, at)
        parts = [(member, number) for member, number in zip(self.members, self.mu[at]) if number != 0]
        averages = [means(member, table) for member, _ in parts]
        return weighted_sum(self.plots, averages, [number for _, number in parts])

    def pieces(self, table):
        """The pieces of the table at all members."""
        return [self.piece(at, table) for at in range(self.many)]

    def squares(self, table):
        """The squares of the pieces of the table at all members."""
        return [part.square() for part in self.pieces(table)]

    def keeps_whole(self, at, table):
        """True if the table is equal to its piece at the member."""
        return self.piece(at, table) == table

    def stratum_matrix(self, at):
        """The matrix that turns each table into its piece at the member."""
        check_index(self.many, at)
        return _projector_sum(self.members, self.mu[at])

    def spectral_matrix(self, table):
        """The matrices of the strata, each times the table's square there divided by the dimension."""
        squares = self.squares(table)
        shares = [over(square, size) if size > 0 else (0, 1) for square, size in zip(squares, self.dimensions)]
        columns = [[row[at] for row in self.mu] for at in range(self.many)]
        return _projector_sum(self.members, [product_sum(column, shares) for column in columns])


def holding_place(strata, tables):
    """The least index of a member whose stratum has all the tables, or None."""
    for at in range(strata.many):
        if _holds(strata, at, tables):
            return at
    return None


def _holds(strata, at, tables):
    for table in tables:
        # A wrong stratum mostly breaks at the first table, so the others are not worked out.
        if not strata.keeps_whole(at, table):
            return False
    return True


def _projector_sum(members, weights):
    """The sum of the projectors of the members, each multiplied by its weight."""
    result = matrix_scale(identity(members[0].plots), 0)
    for member, weight in zip(members, weights):
        result = matrix_sum(result, matrix_scale(projector(member), weight))
    return result


def is_split(members, table, pieces):
    """True if the pieces add up to the table, each constant on its member and 0 in the means above it."""
    check_unequal(members)
    check_alike(members[0].plots, [*members, table, *pieces])
    if len(pieces) != len(members):
        return False
    if not all([is_constant(member, part) for member, part in zip(members, pieces)]):
        return False
    if not all([_vanishes_above(members, member, part) for member, part in zip(members, pieces)]):
        return False
    return table_sum(table.plots, *pieces) == table


def _vanishes_above(members, member, part):
    """True if the means of the part by each strictly coarser member are zero."""
    return all([means(high, part).is_zero() for high in members if is_strictly_finer(member, high)])
