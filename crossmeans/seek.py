"""Designs that are sought: Latin squares and their mates, block designs, and plots in plots."""

from itertools import combinations, permutations, product

from crossmeans.checks import MOST, check_amount, check_most, is_place
from crossmeans.errors import BadPaper, NoDesign, NoPlots
from crossmeans.partings import Parting

_MOST_SIZE = 4
_MOST_TREATMENTS = 7
_MOST_IN_BLOCK = 4
_MOST_TOGETHER = 2


def latin_squares(size):
    """All Latin squares of the size, ascending."""
    check_amount(size, "size", _MOST_SIZE)
    rows = list(permutations(range(size)))
    squares = [()]
    for _ in range(size):
        squares = [square + (row,) for square in squares for row in rows if _fits_below(square, row)]
    return squares


def _fits_below(square, row):
    """True if no number of the row stands in the same column of the square."""
    return not any([number in column for number, column in zip(row, _columns(square, len(row)))])


def _columns(square, size):
    return [[row[k] for row in square] for k in range(size)]


def is_latin(square):
    """True if the value is a Latin square of a size from 1 to 16."""
    if not isinstance(square, tuple) or not 1 <= len(square) <= MOST:
        return False
    if not all([_is_row(len(square), row) for row in square]):
        return False
    return all([len(set(line)) == len(square) for line in [*square, *_columns(square, len(square))]])


def _is_row(size, value):
    """True if the value is a tuple of so many whole numbers below their count, whatever its kind is."""
    return isinstance(value, tuple) and len(value) == size and all([is_place(size, number) for number in value])


def are_mates(first, second):
    """True if both values are Latin squares of one size, and no two places have the same two numbers."""
    if not is_latin(first) or not is_latin(second) or len(first) != len(second):
        return False
    pairs = [pair for row, other in zip(first, second) for pair in zip(row, other)]
    return len(set(pairs)) == len(pairs)


def mates(square):
    """All mates of the square, ascending."""
    _check_square(square)
    return [other for other in latin_squares(len(square)) if are_mates(square, other)]


def _check_square(square):
    """Raise BadPaper if the value is no Latin square, TooMany if it is too large."""
    if not is_latin(square):
        raise BadPaper()
    check_most(len(square), "size", _MOST_SIZE)


def square_partings(square):
    """The partings of the places by rows, by columns and by numbers."""
    _check_square(square)
    places = list(product(range(len(square)), range(len(square))))
    return [Parting([row for row, _ in places]), Parting([column for _, column in places]),
            Parting([square[row][column] for row, column in places])]


def seek_blocks(treatments, size, together):
    """The least block design with so many treatments, so many of them in a block, and each two so often together."""
    check_most(treatments, "treatments", _MOST_TREATMENTS)
    check_most(size, "size", _MOST_IN_BLOCK)
    check_most(together, "together", _MOST_TOGETHER)
    if size < 2 or together < 1 or size > treatments:
        raise NoDesign()
    due = {pair: together for pair in combinations(range(treatments), 2)}
    design = _least_blocks(list(combinations(range(treatments), size)), due, ())
    if design is None:
        raise NoDesign()
    return design


def _least_blocks(blocks, due, begun):
    """The least design with this beginning that has each pair as often as it is still due, or None."""
    open_pairs = [pair for pair, count in due.items() if count > 0]
    if open_pairs == []:
        return begun
    for block in blocks:
        # The least block that is left begins with the first pair that is due, as no lesser pair may stand in it.
        if block[:2] == open_pairs[0]:
            left = _without_block(due, block)
            design = _least_blocks(blocks, left, begun + (block,)) if min(list(left.values())) >= 0 else None
            if design is not None:
                return design
    return None


def _without_block(due, block):
    """How often each pair is still due behind the block."""
    return {pair: count - 1 if pair[0] in block and pair[1] in block else count for pair, count in due.items()}


def is_block_design(blocks, treatments, size, together):
    """True if the value is a block design with so many treatments, in a block, and times together."""
    if not isinstance(blocks, tuple) or not all([_is_block(treatments, size, block) for block in blocks]):
        return False
    if any([block > other for block, other in zip(blocks, blocks[1:])]):
        return False
    pairs = [pair for block in blocks for pair in combinations(list(block), 2)]
    return all([pairs.count(pair) == together for pair in combinations(range(treatments), 2)])


def _is_block(treatments, size, value):
    """True if the value is a tuple of so many unequal ascending treatments, whatever its kind is."""
    if not isinstance(value, tuple) or len(value) != size:
        return False
    if not all([is_place(treatments, treatment) for treatment in value]):
        return False
    return all([left < right for left, right in zip(value, value[1:])])


def block_partings(blocks):
    """The partings of the places of the blocks by blocks and by treatments."""
    # No block at all, or too many places, are refused as in any parting.
    if any([len(block) == 0 for block in blocks]):
        raise NoPlots()
    places = [(at, treatment) for at, block in enumerate(blocks) for treatment in block]
    return [Parting([at for at, _ in places]), Parting([treatment for _, treatment in places])]


def split_plot(blocks, wholes, subs):
    """The partings by blocks and by whole plots, and those by the treatments of whole plots and sub plots."""
    if min(blocks, wholes, subs) < 1:
        raise NoPlots()
    check_most(blocks * wholes * subs, "plots")
    places = list(product(range(blocks), range(wholes), range(subs)))
    strata = [Parting([block for block, _, _ in places]),
              Parting([block * wholes + whole for block, whole, _ in places])]
    treatments = [Parting([whole for _, whole, _ in places]), Parting([sub for _, _, sub in places]),
                  Parting([whole * subs + sub for _, whole, sub in places])]
    return (strata, treatments)
