"""Meetings of two partings: whether their lots meet in proportion, and where they do not."""

from crossmeans.checks import check_alike, check_partings, is_whole
from crossmeans.errors import BadPaper
from crossmeans.tables import Table


def meeting(first, second):
    """The rows of the meeting, one for each two lots within one lot of the join."""
    check_alike(first.plots, [second])
    joined = first | second
    rows = []
    for left in first.lots:
        whole = joined.lot_of(left[0])
        rows.extend([_row(left, right, whole) for right in second.lots if right[0] in whole])
    return rows


def _row(left, right, whole):
    common = [plot for plot in left if plot in right]
    return (left[0], right[0], whole[0], len(common), len(left), len(right), len(whole))


def _breaks(first, second):
    """The breaking rows of the meeting."""
    return [row for row in meeting(first, second) if row[3] * row[6] != row[4] * row[5]]


def first_break(first, second):
    """The first breaking row, or None if there is none."""
    breaks = _breaks(first, second)
    return breaks[0] if breaks else None


def are_orthogonal(first, second):
    """True if the two partings meet in proportion."""
    return first_break(first, second) is None


def is_break(first, second, row):
    """True if the value is a breaking row of the meeting."""
    breaks = _breaks(first, second)
    # Kinds come first, so that True is not taken for the number 1.
    return isinstance(row, tuple) and all([is_whole(part) for part in row]) and row in breaks


def break_table(first, second, row):
    """A table for which the two orders of means are unequal: the mark of the row's lot of first."""
    if not is_break(first, second, row):
        raise BadPaper()
    return Table.mark(first.plots, first.lot_of(row[0]))


def count_table(first, second):
    """For each lot of first a list with its count of common plots with each lot of second."""
    check_alike(first.plots, [second])
    return [[len([plot for plot in left if plot in right]) for right in second.lots] for left in first.lots]


def pair_breaks(partings):
    """A tuple (i, j, first breaking row) for each i less than j whose partings are not orthogonal."""
    check_partings(partings)
    found = []
    for i, first in enumerate(partings):
        for j in range(i + 1, len(partings)):
            row = first_break(first, partings[j])
            if row is not None:
                found.append((i, j, row))
    return found


def all_orthogonal(partings):
    """True if each two of the partings are orthogonal."""
    return pair_breaks(partings) == []
