"""Wishes about the treatments of an unbalanced design: what the strata tell of them, and at what cost."""

from crossmeans.checks import check_alike, check_index
from crossmeans.errors import BadShape, BadWeight, BadWish, NotEstimable, ZeroTable
from crossmeans.matrices import blind_vector, checked_system, matrix_scale, solve
from crossmeans.ratios import are_ratios, as_ratios, minus, over, product_sum, times, total
from crossmeans.tables import lot_marks, lot_totals, weighted_sum

_ZERO = (0, 1)


def information(strata, at, treatments):
    """The information matrix of the stratum, with a row and a column for each treatment."""
    check_index(strata.many, at)
    return _information(strata, _lone_weights(strata, at), treatments)


def combined_information(strata, treatments, weights):
    """The sum of the information matrices of all strata, each multiplied by its weight."""
    ratios = _as_weights(weights)
    check_alike(strata.plots, [treatments])
    _check_weight_count(strata, ratios)
    return _information(strata, ratios, treatments)


def _as_weights(weights):
    """The weights as ratios; raise BadNumber or BadWeight for a wrong one."""
    ratios = as_ratios(weights)
    for at, (num, _) in enumerate(ratios):
        if num < 0:
            raise BadWeight(at)
    return ratios


def _check_weight_count(strata, ratios):
    if len(ratios) != strata.many:
        raise BadShape()


def _lone_weights(strata, at):
    """The weights with which a stratum alone is combined."""
    return [(1, 1) if place == at else _ZERO for place in range(strata.many)]


def _combined_piece(strata, ratios, table):
    """The sum of the pieces of the table at all members, each multiplied by its weight."""
    chosen = [(strata.piece(at, table), weight) for at, weight in enumerate(ratios) if weight != _ZERO]
    return weighted_sum(strata.plots, [part for part, _ in chosen], [weight for _, weight in chosen])


def _information(strata, ratios, treatments):
    marks = lot_marks(treatments)
    pieces = [_combined_piece(strata, ratios, mark) for mark in marks]
    return [[mark.dot(part) for part in pieces] for mark in marks]


def shares(strata, table):
    """For each member the square of the piece divided by the square of the table."""
    check_alike(strata.plots, [table])
    if table.is_zero():
        raise ZeroTable()
    whole = table.square()
    return [over(square, whole) for square in strata.squares(table)]


def balance(strata, treatments):
    """For each member its part of the whole information, 0 for the one-lot parting; None without balance."""
    check_alike(strata.plots, [treatments])
    whole = _whole_information(treatments)
    parts = []
    for at, member in enumerate(strata.members):
        part = _ZERO if member.many == 1 else _part_of(information(strata, at, treatments), whole)
        if part is None:
            return None
        parts.append(part)
    return parts


def _whole_information(treatments):
    """The sizes on the diagonal, minus the products of two sizes divided by the count of plots."""
    return [[minus(size if row == column else 0, (size * other, treatments.plots))
             for column, other in enumerate(treatments.sizes)] for row, size in enumerate(treatments.sizes)]


def _part_of(matrix, whole):
    """The ratio by which the whole must be multiplied to be the matrix, or None if there is none."""
    # With one treatment the whole is zero; with more of them no entry of its diagonal is.
    part = _ZERO if whole[0][0] == _ZERO else over(matrix[0][0], whole[0][0])
    return part if matrix == matrix_scale(whole, part) else None


def can_estimate(strata, at, treatments, wish):
    """True if the wish can be estimated in the stratum."""
    wanted = _lone_wish(strata, at, wish, [treatments])
    return solve(information(strata, at, treatments), wanted) is not None


def estimate(strata, at, treatments, wish, table):
    """The estimate of the wish in the stratum."""
    wanted = _lone_wish(strata, at, wish, [treatments, table])
    return _estimate(strata, _lone_weights(strata, at), treatments, wanted, table)


def wish_cost(strata, at, treatments, wish):
    """The cost of the wish in the stratum."""
    wanted = _lone_wish(strata, at, wish, [treatments])
    return _cost(strata, _lone_weights(strata, at), treatments, wanted)


def efficiency_of(strata, at, treatments, wish):
    """The efficiency of the stratum for the wish, 0 if it cannot be estimated there."""
    wanted = _lone_wish(strata, at, wish, [treatments])
    answer = solve(information(strata, at, treatments), wanted)
    if answer is None:
        return _ZERO
    least = total([over(times(number, number), size) for number, size in zip(wanted, treatments.sizes)])
    return over(least, product_sum(answer, wanted))


def combined_estimate(strata, treatments, wish, table, *, weights):
    """The estimate of the wish with the combined information matrix."""
    wanted, ratios = _combined_wish(strata, wish, weights, [treatments, table])
    return _estimate(strata, ratios, treatments, wanted, table)


def combined_cost(strata, treatments, wish, *, weights):
    """The cost of the wish with the combined information matrix."""
    wanted, ratios = _combined_wish(strata, wish, weights, [treatments])
    return _cost(strata, ratios, treatments, wanted)


def _lone_wish(strata, at, wish, things):
    """The wish as ratios; raise the errors of a wish for one stratum. The treatments are the first thing."""
    check_index(strata.many, at)
    wanted = as_ratios(wish)
    check_alike(strata.plots, things)
    _check_wish(things[0], wanted)
    return wanted


def _combined_wish(strata, wish, weights, things):
    """The wish and the weights as ratios; raise the errors of a wish for combined strata."""
    wanted = as_ratios(wish)
    ratios = _as_weights(weights)
    check_alike(strata.plots, things)
    _check_weight_count(strata, ratios)
    _check_wish(things[0], wanted)
    return wanted, ratios


def _check_wish(treatments, wanted):
    """Raise BadWish if the length, the sum or the zeros are wrong."""
    if len(wanted) != treatments.many or total(wanted) != _ZERO:
        raise BadWish()
    if all([number == _ZERO for number in wanted]):
        raise BadWish()


def _answer(strata, ratios, treatments, wanted):
    """A list that the combined information matrix takes to the wish."""
    matrix = _information(strata, ratios, treatments)
    answer = solve(matrix, wanted)
    if answer is None:
        raise NotEstimable(blind_vector(matrix, wanted))
    return answer


def _estimate(strata, ratios, treatments, wanted, table):
    answer = _answer(strata, ratios, treatments, wanted)
    return product_sum(answer, lot_totals(treatments, _combined_piece(strata, ratios, table)))


def _cost(strata, ratios, treatments, wanted):
    return product_sum(_answer(strata, ratios, treatments, wanted), wanted)


def is_blind(matrix, wish, paper):
    """True if the value is zero against each row of the square matrix, but not against the wish."""
    rows, wanted = checked_system(matrix, wish)
    if len(rows) != len(rows[0]):
        raise BadShape()
    if not are_ratios(paper, len(rows)):
        return False
    if any([product_sum(row, paper) != _ZERO for row in rows]):
        return False
    return product_sum(paper, wanted) != _ZERO
