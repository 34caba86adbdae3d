"""Books: plots with labels and numbers that are edited, asked about, and taken back."""

from crossmeans.checks import check_amount, check_label, check_most, check_names, check_plot
from crossmeans.errors import BadName, BadShape, NoPlots, NothingToUndo, UnknownName
from crossmeans.meetings import all_orthogonal, pair_breaks
from crossmeans.orders import order_paper
from crossmeans.partings import Parting
from crossmeans.ratios import as_ratio
from crossmeans.strata import Strata
from crossmeans.tables import Table


class Book:
    """Plots with one label for each name and a number, under edits."""

    MOST_NAMES = 5

    def __init__(self, names, rows):
        if len(names) == 0:
            raise BadName("")
        check_most(len(names), "names", Book.MOST_NAMES)
        check_names(names)
        check_amount(len(rows), "plots")
        self.names = tuple(names)
        # A tuple (labels, ratio) for each plot. The list is replaced by each edit and never changed.
        self.rows = [_row(len(names), labels, number) for labels, number in rows]
        self.plots = len(rows)
        # The rows before each edit that is not undone.
        self.past = []
        self.edits = 0

    def rows_now(self):
        """A tuple (labels, number) for each plot."""
        return list(self.rows)

    def put(self, plot, number):
        """Set the number of a plot."""
        check_plot(self.plots, plot)
        ratio = as_ratio(number)
        labels, _ = self.rows[plot]
        _edit(self, _replaced(self.rows, plot, (labels, ratio)))

    def relabel(self, plot, name, label):
        """Set one label of a plot."""
        check_plot(self.plots, plot)
        at = _place_of(self, name)
        check_label(label, 0)
        labels, number = self.rows[plot]
        _edit(self, _replaced(self.rows, plot, (labels[:at] + (label,) + labels[at + 1:], number)))

    def swap(self, plot, other):
        """Exchange all labels and the numbers of two plots."""
        check_plot(self.plots, plot)
        check_plot(self.plots, other)
        rows = _replaced(self.rows, plot, self.rows[other])
        _edit(self, _replaced(rows, other, self.rows[plot]))

    def add_plot(self, labels, number):
        """Add a last plot."""
        row = _row(len(self.names), labels, number)
        check_most(self.plots + 1, "plots")
        _edit(self, self.rows + [row])

    def drop(self, plot):
        """Remove a plot."""
        check_plot(self.plots, plot)
        if self.plots == 1:
            raise NoPlots()
        _edit(self, self.rows[:plot] + self.rows[plot + 1:])

    def undo(self):
        """Take back the latest edit that is not yet undone."""
        if self.edits == 0:
            raise NothingToUndo()
        rows = self.past.pop()
        _set_rows(self, rows)

    def table(self):
        """The table of the numbers."""
        return Table([number for _, number in self.rows])

    def parting(self, name):
        """The parting of the name."""
        return Parting(_labels_of(self, name))

    def lot_size(self, name, label):
        """The count of plots with this label for the name."""
        return _labels_of(self, name).count(label)

    def breaks(self):
        """The first breaking rows of the partings, in the order of the names."""
        return pair_breaks(partings_of(self))

    def is_orthogonal(self):
        """True if each two partings of the names are orthogonal."""
        return all_orthogonal(partings_of(self))

    def squares(self):
        """The squares of the table in the strata of the partings."""
        return Strata(partings_of(self)).squares(self.table())

    def unlike_orders(self):
        """The order paper of the partings, or None if they are orthogonal."""
        return order_paper(partings_of(self))

    def twin(self):
        """A new Book with the same state and no history."""
        return Book(self.names, self.rows)

    def __iter__(self):
        return iter(self.rows)


def _row(many, labels, number):
    """The tuple (labels, ratio) of a plot; raise the errors of its labels and its number."""
    if len(labels) != many:
        raise BadShape()
    for at, label in enumerate(labels):
        check_label(label, at)
    return (tuple(labels), as_ratio(number))


def _place_of(book, name):
    """The place of the name among the names of the book."""
    # Any value may be asked for, so the names are not looked up in a dict.
    if name not in book.names:
        raise UnknownName(name)
    return book.names.index(name)


def _labels_of(book, name):
    """The labels of all plots for the name."""
    at = _place_of(book, name)
    return [labels[at] for labels, _ in book.rows]


def partings_of(book):
    """The partings in the order of the names."""
    return [book.parting(name) for name in book.names]


def _replaced(rows, plot, row):
    """The rows with another one at the plot, a new list."""
    return rows[:plot] + [row] + rows[plot + 1:]


def _edit(book, rows):
    """Give the book new rows, and keep the old ones for an undo."""
    book.past.append(book.rows)
    _set_rows(book, rows)


def _set_rows(book, rows):
    book.rows = rows
    book.plots = len(rows)
    book.edits = len(book.past)
