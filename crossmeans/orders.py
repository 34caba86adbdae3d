"""Orders of partings: the squares of their steps, fits, and papers that orders do not agree."""

from crossmeans.checks import check_alike, check_amount, check_most, check_partings, check_unequal, is_place, is_whole
from crossmeans.closure import closure
from crossmeans.errors import BadOrder, BadPaper
from crossmeans.lattice import is_finer, is_strictly_finer
from crossmeans.meetings import all_orthogonal, pair_breaks
from crossmeans.ratios import are_ratios, minus
from crossmeans.spans import Span, independent, nearest_weights
from crossmeans.tables import Table, is_constant, lot_marks, lot_totals, table_sum, weighted_sum

_MOST_ORDERS = 100
# Fits and squares of steps are worked out for this many plots only.
_MOST_FITTED = 9


def _is_order(amount, order):
    """True if the value is a list that has each index below the amount once."""
    if not isinstance(order, (list, tuple)) or not all([is_whole(at) for at in order]):
        return False
    return sorted(order) == list(range(amount))


def _check_order(amount, order):
    if not _is_order(amount, order):
        raise BadOrder()


def _keeps_coarse_first(members, order):
    """True if no member stands behind a strictly finer one in the order of all members."""
    steps = [members[at] for at in order]
    late = [high for k, high in enumerate(steps) if any([is_strictly_finer(low, high) for low in steps[:k]])]
    return late == []


def is_coarse_first(members, order):
    """True if each strictly coarser member stands before each strictly finer one."""
    check_unequal(members)
    _check_order(len(members), order)
    check_alike(members[0].plots, members)
    return _keeps_coarse_first(members, order)


def coarse_first_orders(members, *, limit=20):
    """The first coarse-first orders of the members in ascending order, at most `limit` of them."""
    check_unequal(members)
    check_most(limit, "orders", _MOST_ORDERS)
    check_alike(members[0].plots, members)
    places = list(range(len(members)))
    coarser = [[high for high in places if is_strictly_finer(members[low], members[high])] for low in places]
    return _orders_from(coarser, (), limit)


def _orders_from(coarser, begun, limit):
    """The first orders with this beginning in which each index stands behind its coarser ones."""
    if len(begun) == len(coarser):
        return [begun]
    found = []
    for at, above in enumerate(coarser):
        if len(found) < limit and at not in begun and all([high in begun for high in above]):
            found = found + _orders_from(coarser, begun + (at,), limit - len(found))
    return found


def sequence_squares(partings, order, table):
    """For each parting the square of the step at which the order takes it."""
    check_amount(len(partings), "partings")
    _check_order(len(partings), order)
    plots = partings[0].plots
    check_alike(plots, [*partings, table])
    check_most(plots, "plots", _MOST_FITTED)
    squares = [(0, 1)] * len(partings)
    last = (0, 1)
    for k, at in enumerate(order):
        fitted = _span_of(partings, order[:k + 1]).square_in(table)
        squares[at] = minus(fitted, last)
        last = fitted
    return squares


def _span_of(partings, taken):
    """The span of the marks of all lots of the partings with these indexes."""
    return Span.of_partings(partings[0].plots, [partings[at] for at in taken])


def fit(partings, table):
    """A fit of the table by the partings: for each one the cells of its part."""
    _check_fitted(partings, table)
    check_most(table.plots, "plots", _MOST_FITTED)
    marks = [mark for parting in partings for mark in lot_marks(parting)]
    owners = [at for at, parting in enumerate(partings) for _ in parting.lots]
    kept = independent(table.plots, marks)
    weights = nearest_weights([marks[k] for k in kept], table)
    parts = []
    for at in range(len(partings)):
        own = [(marks[k], weight) for k, weight in zip(kept, weights) if owners[k] == at]
        part = weighted_sum(table.plots, [mark for mark, _ in own], [weight for _, weight in own])
        parts.append(part.cells)
    return tuple(parts)


def _check_fitted(partings, table):
    """Raise the errors of a list of partings, which may be empty, with a table behind it."""
    check_most(len(partings), "partings")
    things = [*partings, table]
    check_alike(things[0].plots, things)


def is_fit(partings, table, parts):
    """True if the value is a fit of the table by the partings."""
    _check_fitted(partings, table)
    if not isinstance(parts, tuple) or len(parts) != len(partings):
        return False
    if not all([are_ratios(cells, table.plots) for cells in parts]):
        return False
    tables = [Table(cells) for cells in parts]
    if not all([is_constant(parting, part) for parting, part in zip(partings, tables)]):
        return False
    rest = table - table_sum(table.plots, *tables)
    return all([part == (0, 1) for parting in partings for part in lot_totals(parting, rest)])


def order_free(partings):
    """True if all coarse-first orders of the closure give equal squares for every table."""
    closure(partings)
    # The main fact of the program: orders agree exactly if each two partings meet in proportion.
    return all_orthogonal(partings)


def order_paper(partings):
    """None if no order matters; otherwise the paper of two orders that give unequal squares."""
    members = _small_closure(partings)
    breaks = [(i, j) for i, j, _ in pair_breaks(members)]
    if breaks == []:
        return None
    pairs = [(len(_upper_set(members, p, q)), p, q) for p, q in breaks]
    _, p, q = min(pairs)
    upper = _upper_set(members, p, q)
    begun = [at for at in upper if at not in (p, q)]
    rest = [at for at in range(len(members)) if at not in upper]
    order_one = (*begun, p, q, *rest)
    order_two = (*begun, q, p, *rest)
    return (order_one, order_two, _first_unequal(members, order_one, order_two, p).cells, p)


def _small_closure(partings):
    """The closure with the one-lot parting added; raise the errors of the order papers."""
    check_partings(partings)
    check_most(partings[0].plots, "plots", _MOST_FITTED)
    return closure(partings)


def _upper_set(members, p, q):
    """The indexes of the members that are coarser than member p or coarser than member q."""
    return [at for at, high in enumerate(members) if is_finer(members[p], high) or is_finer(members[q], high)]


def _first_unequal(members, order_one, order_two, at):
    """The first mark of one or two plots to which the two orders give unequal squares at the member."""
    plots = members[0].plots
    one = _spans_about(members, order_one, at)
    two = _spans_about(members, order_two, at)
    lots = [[plot] for plot in range(plots)]
    lots.extend([[plot, other] for plot in range(plots) for other in range(plot + 1, plots)])
    for lot in lots:
        table = Table.mark(plots, lot)
        if _step_square(one, table) != _step_square(two, table):
            return table
    return None


def _spans_about(members, order, at):
    """The spans of the members that the order takes before the member, and of these with it."""
    k = order.index(at)
    return (_span_of(members, order[:k]), _span_of(members, order[:k + 1]))


def _step_square(spans, table):
    before, behind = spans
    return minus(behind.square_in(table), before.square_in(table))


def is_order_paper(partings, paper):
    """True if the value shows two coarse-first orders that give unequal squares to a member."""
    members = _small_closure(partings)
    if not isinstance(paper, tuple) or len(paper) != 4:
        return False
    order_one, order_two, cells, at = paper
    if not _is_paper_order(members, order_one) or not _is_paper_order(members, order_two):
        return False
    if not are_ratios(cells, members[0].plots) or not is_place(len(members), at):
        return False
    table = Table(cells)
    one = _step_square(_spans_about(members, order_one, at), table)
    return one != _step_square(_spans_about(members, order_two, at), table)


def _is_paper_order(members, order):
    """True if the value is a tuple that is a coarse-first order of the members."""
    return isinstance(order, tuple) and _is_order(len(members), order) and _keeps_coarse_first(members, order)


def order_fits(partings, paper):
    """The fits before and behind the step of the paper's member, in its first and its second order."""
    if not is_order_paper(partings, paper):
        raise BadPaper()
    order_one, order_two, cells, at = paper
    members = closure(partings)
    fits = []
    for order in (order_one, order_two):
        k = order.index(at)
        for taken in (order[:k], order[:k + 1]):
            fits.append(fit([members[place] for place in taken], Table(cells)))
    return tuple(fits)
