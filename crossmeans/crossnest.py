"""Layouts of crossed and nested factors: their plots, the partings of terms, and products of partings."""

from math import factorial

from crossmeans.checks import check_alike, check_amount, check_index, check_most, check_plot, is_factor_name, is_whole
from crossmeans.errors import BadShape, BadSizes, BadTerm, UnknownName
from crossmeans.formula import MOST_FACTORS
from crossmeans.partings import Parting


def _levels_by_name(sizes):
    """The levels of each factor in the order of the sizes, a dict; raise the errors of the sizes."""
    check_amount(len(sizes), "factors", MOST_FACTORS)
    levels = {}
    for at, entry in enumerate(sizes):
        if not _is_size(entry) or entry[0] in levels:
            raise BadSizes(at)
        levels[entry[0]] = entry[1]
    check_most(_product(list(levels.values())), "plots")
    return levels


def _is_size(value):
    """True if the value is a pair of a factor name and a count of levels, whatever its kind is."""
    if not isinstance(value, (tuple, list)) or len(value) != 2:
        return False
    return is_factor_name(value[0]) and is_whole(value[1]) and value[1] >= 1


def _product(numbers):
    result = 1
    for number in numbers:
        result = result * number
    return result


def plots_of(sizes):
    """The count of plots of the full layout."""
    return _product(list(_levels_by_name(sizes).values()))


def coordinates(sizes, plot):
    """The levels of the plot, a tuple in the order of the sizes."""
    counts = list(_levels_by_name(sizes).values())
    check_plot(_product(counts), plot)
    return _levels_of(counts, plot)


def _levels_of(counts, plot):
    levels = []
    rest = plot
    # The last factor changes fastest, so its level is found first.
    for count in reversed(counts):
        rest, level = divmod(rest, count)
        levels.append(level)
    return tuple(reversed(levels))


def plot_at(sizes, levels):
    """The plot that has these levels in the order of the sizes."""
    counts = list(_levels_by_name(sizes).values())
    if len(levels) != len(counts):
        raise BadShape()
    plot = 0
    for count, level in zip(counts, levels):
        check_index(count, level)
        plot = plot * count + level
    return plot


def term_parting(sizes, term):
    """The parting with two plots in one lot if they have the same level in each factor of the term."""
    levels = _levels_by_name(sizes)
    for value in term:
        if value not in list(levels):
            raise UnknownName(value)
    return _parting_of(levels, term)


def _parting_of(levels, term):
    counts = list(levels.values())
    places = [at for at, name in enumerate(levels) if name in term]
    labels = []
    for plot in range(_product(counts)):
        own = _levels_of(counts, plot)
        labels.append(" ".join([str(own[at]) for at in places]))
    return Parting(labels)


def structure(formula, sizes):
    """A tuple (term, parting) for the empty term and for each term of the formula."""
    levels = _levels_of_factors(formula, sizes)
    return [(term, _parting_of(levels, term)) for term in [()] + formula.terms()]


def _levels_of_factors(formula, sizes):
    """The levels of each factor; raise UnknownName if the sizes and the formula have unequal factors."""
    levels = _levels_by_name(sizes)
    for name in formula.factors:
        if name not in levels:
            raise UnknownName(name)
    for name in levels:
        if name not in formula.factors:
            raise UnknownName(name)
    return levels


def stratum_size(formula, sizes, term):
    """The product over the term of levels minus 1, or of levels for a factor above another one of the term."""
    levels = _levels_of_factors(formula, sizes)
    # Kinds come first: an entry of another kind need not be fit for a set.
    if not all([value in formula.factors for value in term]):
        raise BadTerm()
    names = tuple([name for name in formula.factors if name in term])
    if names not in [()] + formula.terms():
        raise BadTerm()
    covered = [high for name in names for high in formula.above(name)]
    return _product([levels[name] if name in covered else levels[name] - 1 for name in names])


def group_order(formula, sizes):
    """The count of the arrangements that keep each parting of the structure."""
    levels = _levels_of_factors(formula, sizes)
    result = 1
    for name in formula.factors:
        # The levels of a factor are rearranged anew within each choice of levels above it.
        for _ in range(_product([levels[high] for high in formula.above(name)])):
            result = result * factorial(levels[name])
    return result


def product_parting(first, second):
    """The product of the two partings: plot p and plot q make the plot p * m + q."""
    # Too many plots are refused as in any parting.
    return Parting([left * second.plots + right for left in first.names for right in second.names])


def cross_partings(left, right):
    """The products of each parting of the left list with each one of the right list, each once."""
    _check_lists(left, right)
    return _listed_once([(first, second) for first in left for second in right])


def nest_partings(left, right):
    """The left partings with one lot on the right, then single plots on the left with the right partings."""
    _check_lists(left, right)
    one = Parting.one(right[0].plots)
    single = Parting.single(left[0].plots)
    return _listed_once([(first, one) for first in left] + [(single, second) for second in right])


def _check_lists(left, right):
    """Raise the errors of two lists of partings whose products are made."""
    check_amount(len(left), "partings")
    check_amount(len(right), "partings")
    check_alike(left[0].plots, left)
    check_alike(right[0].plots, right)


def _listed_once(pairs):
    """The products of the pairs without those that are equal to an earlier one."""
    found = []
    for first, second in pairs:
        made = product_parting(first, second)
        if made not in found:
            found.append(made)
    check_most(len(found), "partings")
    return found
