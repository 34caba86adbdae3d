"""Matrices of exact numbers: their arithmetic, and systems of equations with their answers."""

from math import lcm

from crossmeans.checks import check_amount, check_most
from crossmeans.errors import BadShape
from crossmeans.ratios import as_ratio, as_ratios, plus, product_sum, ratio, times, total
from crossmeans.tables import Table


def _checked_matrix(matrix):
    """The matrix as new rows of ratios; raise the errors of a matrix argument."""
    if len(matrix) == 0:
        raise BadShape()
    width = len(matrix[0])
    if width == 0 or any([len(row) != width for row in matrix]):
        raise BadShape()
    check_most(max(len(matrix), width), "rows")
    return [[as_ratio(entry, at * width + k) for k, entry in enumerate(row)] for at, row in enumerate(matrix)]


def _columns(rows):
    """The columns of checked rows, a list of lists."""
    return [[row[k] for row in rows] for k in range(len(rows[0]))]


def _product(rows, others):
    """The product of checked rows whose counts fit each other."""
    columns = _columns(others)
    return [[product_sum(row, column) for column in columns] for row in rows]


def identity(plots):
    """The matrix with 1 on the diagonal and 0 elsewhere."""
    check_amount(plots, "plots")
    return [[(1, 1) if row == column else (0, 1) for column in range(plots)] for row in range(plots)]


def projector(parting):
    """The matrix that turns each table into its means by the parting."""
    return [_projector_row(parting, plot) for plot in range(parting.plots)]


def _projector_row(parting, plot):
    lot = parting.lot_of(plot)
    return [(1, len(lot)) if other in lot else (0, 1) for other in range(parting.plots)]


def matrix_sum(left, right):
    """The sum of two matrices, entry by entry."""
    rows = _checked_matrix(left)
    others = _checked_matrix(right)
    if len(rows) != len(others) or len(rows[0]) != len(others[0]):
        raise BadShape()
    return [[plus(entry, more) for entry, more in zip(row, other)] for row, other in zip(rows, others)]


def matrix_scale(matrix, number):
    """Each entry of the matrix times the number."""
    rows = _checked_matrix(matrix)
    factor = as_ratio(number)
    return [[times(entry, factor) for entry in row] for row in rows]


def matrix_product(left, right):
    """The product of two matrices."""
    rows = _checked_matrix(left)
    others = _checked_matrix(right)
    if len(rows[0]) != len(others):
        raise BadShape()
    return _product(rows, others)


def transpose(matrix):
    """The matrix whose rows are the columns of the given one."""
    return _columns(_checked_matrix(matrix))


def trace(matrix):
    """The sum of the diagonal of a square matrix."""
    rows = _checked_matrix(matrix)
    if len(rows) != len(rows[0]):
        raise BadShape()
    return total([row[at] for at, row in enumerate(rows)])


def apply_matrix(matrix, table):
    """The matrix times the table as a column, a table."""
    rows = _checked_matrix(matrix)
    if len(rows) != len(rows[0]) or len(rows) != table.plots:
        raise BadShape()
    return Table([product_sum(row, table.cells) for row in rows])


def is_projector(matrix):
    """True if the matrix is square and equal to its transpose and to its product with itself."""
    rows = _checked_matrix(matrix)
    return len(rows) == len(rows[0]) and rows == _columns(rows) and rows == _product(rows, rows)


def solve(matrix, right):
    """The list x with matrix times x equal to the right side and 0 at each free column, or None."""
    rows, wanted = checked_system(matrix, right)
    width = len(rows[0])
    joint = [whole_row(row + [number]) for row, number in zip(rows, wanted)]
    reduced, pivots = eliminated(joint, width)
    if any([row[width] != 0 for row in reduced[len(pivots):]]):
        return None
    answer = [(0, 1)] * width
    for row, column in zip(reduced, pivots):
        answer[column] = ratio(row[width], row[column])
    return answer


def blind_vector(matrix, right):
    """None if `solve` finds a list; otherwise a tuple that is 0 against each column and 1 against the right side."""
    rows, wanted = checked_system(matrix, right)
    width = len(rows[0])
    # The unit columns record which sum of multiples of the rows each reduced row is.
    units = identity(len(rows))
    joint = [whole_row(row + [number] + unit) for row, number, unit in zip(rows, wanted, units)]
    reduced, pivots = eliminated(joint, width)
    for row in reduced[len(pivots):]:
        if row[width] != 0:
            return tuple([ratio(entry, row[width]) for entry in row[width + 1:]])
    return None


def checked_system(matrix, right):
    """The rows of the matrix and the right side; raise the errors of a system of equations."""
    rows = _checked_matrix(matrix)
    wanted = as_ratios(right)
    if len(wanted) != len(rows):
        raise BadShape()
    return rows, wanted


def shared_den(row):
    """The least whole number above 0 that makes each ratio of the row whole."""
    scale = 1
    for _, den in row:
        scale = lcm(scale, den)
    return scale


def whole_row(row):
    """A multiple of the row of ratios that has whole numbers alone."""
    scale = shared_den(row)
    return [num * (scale // den) for num, den in row]


def eliminated(joint, width):
    """The rows of whole numbers reduced on their first columns, and the columns of the pivots.

    Only the first `width` columns get pivots. Pivot k stands in row k, and all the other rows have 0
    in its column. No fractions arise: each entry stays a minor of the given rows, so each division
    by the pivot before is exact.
    """
    rows = list(joint)
    pivots = []
    last = 1
    for column in range(width):
        top = len(pivots)
        found = [at for at in range(top, len(rows)) if rows[at][column] != 0]
        if found:
            rows[top], rows[found[0]] = rows[found[0]], rows[top]
            lead = rows[top]
            rows = [row if at == top else _cleared(row, lead, column, last) for at, row in enumerate(rows)]
            last = lead[column]
            pivots.append(column)
    return rows, pivots


def _cleared(row, lead, column, last):
    """The row with 0 in the column, by a multiple of the lead row; `last` is the pivot before."""
    pivot = lead[column]
    factor = row[column]
    return [(pivot * entry - factor * other) // last for entry, other in zip(row, lead)]
