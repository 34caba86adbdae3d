"""Tables: one exact number for each plot, and their means over the lots of partings."""

from crossmeans.checks import check_alike, check_amount, check_lot, check_most
from crossmeans.ratios import as_ratio, as_ratios, minus, negated, over, plus, product_sum, times, total


class Table:
    """A table with one number for each of 1 to 16 plots."""

    def __init__(self, cells):
        check_amount(len(cells), "plots")
        self.cells = tuple(as_ratios(cells))
        self.plots = len(self.cells)

    @classmethod
    def zeros(cls, plots):
        """The table with all cells zero."""
        check_amount(plots, "plots")
        return cls([0] * plots)

    @classmethod
    def mark(cls, plots, lot):
        """The table that is 1 at the plots of the list and 0 elsewhere."""
        check_amount(plots, "plots")
        check_lot(plots, lot)
        return cls([1 if plot in lot else 0 for plot in range(plots)])

    def cell_sum(self):
        """The sum of the cells."""
        return total(self.cells)

    def dot(self, table):
        """The sum of the products of the cells at the same plot."""
        check_alike(self.plots, [table])
        return product_sum(self.cells, table.cells)

    def square(self):
        """The product sum of the table with itself."""
        return product_sum(self.cells, self.cells)

    def is_zero(self):
        """True if all cells are zero."""
        return all([cell == (0, 1) for cell in self.cells])

    def __add__(self, other):
        check_alike(self.plots, [other])
        return Table([plus(left, right) for left, right in zip(self.cells, other.cells)])

    def __sub__(self, other):
        check_alike(self.plots, [other])
        return Table([minus(left, right) for left, right in zip(self.cells, other.cells)])

    def __neg__(self):
        return Table([negated(cell) for cell in self.cells])

    def __mul__(self, other):
        factor = as_ratio(other)
        return Table([times(cell, factor) for cell in self.cells])

    def __eq__(self, other):
        return isinstance(other, Table) and self.cells == other.cells

    def __iter__(self):
        return iter(self.cells)


def table_sum(plots, *tables):
    """The sum of the tables; the table of zeros if none is passed."""
    check_amount(plots, "plots")
    check_alike(plots, tables)
    result = Table.zeros(plots)
    for table in tables:
        result = result + table
    return result


def weighted_sum(plots, tables, weights):
    """The sum of the tables, each multiplied by its weight."""
    parts = [table * weight for table, weight in zip(tables, weights)]
    return table_sum(plots, *parts)


def lot_marks(parting):
    """The marks of the lots, in the order of the lots."""
    return [Table.mark(parting.plots, lot) for lot in parting.lots]


def lot_totals(parting, table):
    """The sum of the cells of each lot, in the order of the lots."""
    check_alike(parting.plots, [table])
    return [total([table.cells[plot] for plot in lot]) for lot in parting.lots]


def means(parting, table):
    """The table in which each cell is replaced by the mean over its lot."""
    totals = lot_totals(parting, table)
    mean_of = {lot[0]: over(part, len(lot)) for lot, part in zip(parting.lots, totals)}
    return Table([mean_of[name] for name in parting.names])


def means_by(partings, table):
    """The means by the first parting, then those of the result by the second one, and so on."""
    check_most(len(partings), "partings")
    # The first thing with a count is the reference: a parting, or the table if there is none.
    things = [*partings, table]
    check_alike(things[0].plots, things)
    result = table
    for parting in partings:
        result = means(parting, result)
    return result


def residue(parting, table):
    """The table minus its means by the parting."""
    return table - means(parting, table)


def is_constant(parting, table):
    """True if each two plots in one lot have equal cells."""
    check_alike(parting.plots, [table])
    return all([table.cells[plot] == table.cells[name] for plot, name in enumerate(parting.names)])


def orders_agree(first, second, table):
    """True if means by the first parting and then by the second are the same in the other order."""
    check_alike(first.plots, [second, table])
    return means(second, means(first, table)) == means(first, means(second, table))
