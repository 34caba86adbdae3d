"""Spans: all sums of multiples of some tables, with their reduced bases and nearest tables."""

from crossmeans.checks import check_alike, check_amount, check_most
from crossmeans.matrices import eliminated, shared_den, solve, whole_row
from crossmeans.ratios import over
from crossmeans.tables import Table, lot_marks, weighted_sum

_MOST_TABLES = 64


class Span:
    """All sums of multiples of at most 64 tables."""

    def __init__(self, plots, tables=()):
        check_amount(plots, "plots")
        check_most(len(tables), "tables", _MOST_TABLES)
        check_alike(plots, tables)
        wholes = [whole_row(tables[at].cells) for at in independent(plots, tables)]
        rows, leads = eliminated(wholes, plots)
        self.plots = plots
        self.dimension = len(leads)
        self.rows = tuple([Table([(cell, row[lead]) for cell in row]) for row, lead in zip(rows, leads)])
        # The index of the first nonzero cell of each row.
        self.leads = tuple(leads)
        # Another basis: its numbers stay much smaller than those of the rows.
        self.basis = tuple([Table(row) for row in wholes])

    @classmethod
    def of_partings(cls, plots, partings):
        """The span of the marks of all lots of the partings."""
        check_amount(plots, "plots")
        check_most(len(partings), "partings")
        check_alike(plots, partings)
        marks = [mark for parting in partings for mark in lot_marks(parting)]
        return cls(plots, [marks[at] for at in independent(plots, marks)])

    def nearest(self, table):
        """The table of the span whose difference from the table is 0 against the whole span."""
        check_alike(self.plots, [table])
        return weighted_sum(self.plots, self.basis, nearest_weights(self.basis, table))

    def square_in(self, table):
        """The square of the nearest table."""
        return self.nearest(table).square()

    def widened(self, tables):
        """The span of its own tables and the listed ones."""
        check_most(len(tables), "tables", _MOST_TABLES)
        check_alike(self.plots, tables)
        joint = [*self.basis, *tables]
        return Span(self.plots, [joint[at] for at in independent(self.plots, joint)])

    def __contains__(self, x):
        check_alike(self.plots, [x])
        # Each row alone has a nonzero cell at its lead, so the leads tell all weights.
        return weighted_sum(self.plots, self.rows, [x.cells[lead] for lead in self.leads]) == x

    def __or__(self, other):
        check_alike(self.plots, [other])
        return Span(self.plots, [*self.basis, *other.basis])

    def __eq__(self, other):
        return isinstance(other, Span) and self.plots == other.plots and self.rows == other.rows


def independent(plots, tables):
    """The indexes of the tables that are no sums of multiples of the tables before them."""
    wholes = [whole_row(table.cells) for table in tables]
    _, places = eliminated([[row[plot] for row in wholes] for plot in range(plots)], len(tables))
    return places


def nearest_weights(basis, table):
    """The weights of independent tables in the table of their span that is nearest to the table."""
    if len(basis) == 0:
        return []
    # In whole numbers the equations are solved with much smaller numbers.
    scale = shared_den(table.cells)
    whole = table * scale
    products = [[row.dot(other) for other in basis] for row in basis]
    weights = solve(products, [row.dot(whole) for row in basis])
    return [over(weight, scale) for weight in weights]
