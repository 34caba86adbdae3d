"""Lost plots: what remains without them, and the fewest that leave a list of partings orthogonal."""

from itertools import combinations

from crossmeans.checks import check_alike, check_amount, check_lot, check_most
from crossmeans.errors import NoMend
from crossmeans.meetings import all_orthogonal
from crossmeans.partings import Parting
from crossmeans.tables import Table

# The sets of lost plots are gone through for this many plots and partings only.
_MOST_PLOTS = 7
_MOST_PARTINGS = 4


def leave_out(parting, lost):
    """The parting of the plots that remain."""
    return Parting([parting.names[plot] for plot in _remaining(parting.plots, lost)])


def leave_out_cells(table, lost):
    """The table of the cells that remain."""
    return Table([table.cells[plot] for plot in _remaining(table.plots, lost)])


def _remaining(plots, lost):
    """The plots that are not lost, ascending. If there are none, no parting and no table can be made of them."""
    check_lot(plots, lost)
    return [plot for plot in range(plots) if plot not in lost]


def mends(partings, lost):
    """True if the partings of the plots that remain are pairwise orthogonal."""
    check_amount(len(partings), "partings")
    check_lot(partings[0].plots, lost)
    check_alike(partings[0].plots, partings)
    return all_orthogonal([leave_out(parting, lost) for parting in partings])


def all_least_losses(partings, *, keep=()):
    """All mending sets without a plot of `keep` that have the fewest plots of all these, ascending."""
    check_amount(len(partings), "partings")
    plots = partings[0].plots
    check_lot(plots, keep)
    check_alike(plots, partings)
    check_most(plots, "plots", _MOST_PLOTS)
    check_most(len(partings), "partings", _MOST_PARTINGS)
    free = [plot for plot in range(plots) if plot not in keep]
    # A single plot that remains is always mended, so all plots are never tried.
    for count in range(len(free) + 1):
        losses = [lost for lost in combinations(free, count) if mends(partings, lost)]
        if losses:
            return losses
    raise NoMend()


def least_loss(partings, *, keep=()):
    """The first of all least losses."""
    return all_least_losses(partings, keep=keep)[0]
