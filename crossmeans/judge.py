"""Judges: whether a paper shows what it must show. They take any plain values and raise nothing.

The judges rest on `ratios` alone and repeat what else they need, so that a fault elsewhere cannot make
a wrong paper look right. A parting is the tuple of its names here, and a table the tuple of its cells.
"""

from itertools import combinations

from crossmeans.ratios import are_ratios, minus, over, product_sum, total

_MOST = 16
_ZERO = (0, 1)


def _is_whole(value):
    return isinstance(value, int) and not isinstance(value, bool)


def _is_place(count, value):
    """True if the value is a whole number from 0 to the count minus 1."""
    return _is_whole(value) and 0 <= value < count


def _are_places(count, values):
    """True if the value is a tuple of whole numbers from 0 to the count minus 1."""
    return isinstance(values, tuple) and all([_is_place(count, value) for value in values])


def _ascends(places):
    """True if each entry is greater than the one before."""
    return all([left < right for left, right in zip(places, places[1:])])


def _is_full(value):
    """True if the value is a tuple with 1 to 16 entries."""
    return isinstance(value, tuple) and 1 <= len(value) <= _MOST


def is_names(names):
    """True if the value is the names of a parting of 1 to 16 plots."""
    if not _is_full(names):
        return False
    # A name is at most its own index, so it points into the tuple.
    return all([_is_place(plot + 1, name) and names[name] == name for plot, name in enumerate(names)])


def _are_partings(values):
    """True if all entries of the list are partings with equal counts of plots."""
    if not all([is_names(value) for value in values]):
        return False
    return all([len(value) == len(values[0]) for value in values])


def _are_members(members):
    """True if the value is a tuple of 1 to 16 unequal partings with equal counts of plots."""
    return _is_full(members) and _are_partings(members) and len(set(members)) == len(members)


def _first_places(labels):
    """For each label the index at which an equal label stands first, a tuple."""
    return tuple([labels.index(label) for label in labels])


def _joined(first, second):
    """The names of the join of two partings."""
    names = list(first)
    for plot, mate in enumerate(second):
        low = min(names[plot], names[mate])
        high = max(names[plot], names[mate])
        names = [low if name == high else name for name in names]
    return tuple(names)


def _is_strictly_finer(first, second):
    """True if the first parting is finer than the second and not equal to it."""
    return first != second and all([second[plot] == second[name] for plot, name in enumerate(first)])


def _breaks(first, second):
    """The rows of the meeting of two partings in which their lots do not meet in proportion."""
    joined = _joined(first, second)
    common = {}
    for pair in zip(first, second):
        common[pair] = common.get(pair, 0) + 1
    rows = [(a, b, joined[a], common.get((a, b), 0), first.count(a), second.count(b), joined.count(joined[a]))
            for a in sorted(set(first)) for b in sorted(set(second)) if joined[a] == joined[b]]
    return [row for row in rows if row[3] * row[6] != row[4] * row[5]]


def _lot_totals(names, cells):
    """The sum of the cells of each lot, a dict by the names of the lots."""
    return {name: total([cell for own, cell in zip(names, cells) if own == name]) for name in sorted(set(names))}


def _means(names, cells):
    totals = _lot_totals(names, cells)
    return [over(totals[name], names.count(name)) for name in names]


def _is_constant(names, cells):
    """True if the cells are equal within each lot."""
    return all([cells[plot] == cells[name] for plot, name in enumerate(names)])


def _vanishes(names, cells):
    """True if the means over each lot are zero."""
    return all([part == _ZERO for part in list(_lot_totals(names, cells).values())])


def _cell_sums(plots, tables):
    """The cells of the sum of the tables, a tuple."""
    return tuple([total([cells[plot] for cells in tables]) for plot in range(plots)])


def judge_path(first, second, start, goal, path):
    """True if the path leads from start to goal, each step within a lot of one of the partings."""
    if not _are_partings([first, second]) or not _are_places(len(first), (start, goal)):
        return False
    if not _are_places(len(first), path) or len(path) == 0:
        return False
    if path[0] != start or path[-1] != goal:
        return False
    return all([left != right and (first[left] == first[right] or second[left] == second[right])
                for left, right in zip(path, path[1:])])


def judge_break(first, second, row):
    """True if the row is a breaking row of the meeting of the partings."""
    if not _are_partings([first, second]) or not isinstance(row, tuple):
        return False
    return all([_is_whole(number) for number in row]) and row in _breaks(first, second)


def judge_table(first, second, cells):
    """True if the means of the table by the two partings hang on their order."""
    if not _are_partings([first, second]) or not are_ratios(cells, len(first)):
        return False
    return _means(second, _means(first, cells)) != _means(first, _means(second, cells))


def judge_split(members, cells, pieces):
    """True if the pieces are constant on their members, zero in the means above them, and add up to the table."""
    if not _are_members(members) or not are_ratios(cells, len(members[0])):
        return False
    if not _are_tables(pieces, len(members), len(cells)):
        return False
    if not all([_is_constant(member, piece) for member, piece in zip(members, pieces)]):
        return False
    above = [(high, piece) for member, piece in zip(members, pieces) for high in members
             if _is_strictly_finer(member, high)]
    return all([_vanishes(high, piece) for high, piece in above]) and _cell_sums(len(cells), pieces) == cells


def _are_tables(values, count, plots):
    """True if the value is a tuple of so many tables of so many plots."""
    return isinstance(values, tuple) and len(values) == count and all([are_ratios(cells, plots) for cells in values])


def judge_fit(partings, cells, parts):
    """True if the parts are constant on their partings and add up to the fitted table."""
    if not isinstance(partings, tuple) or len(partings) > _MOST or not _are_partings(partings):
        return False
    if not _is_full(cells) or not are_ratios(cells, len(cells)):
        return False
    if any([len(names) != len(cells) for names in partings]):
        return False
    return _is_fit(partings, cells, parts)


def _is_fit(partings, cells, parts):
    """True if the value is a fit of the table by the list of partings with as many plots."""
    if not _are_tables(parts, len(partings), len(cells)):
        return False
    if not all([_is_constant(names, part) for names, part in zip(partings, parts)]):
        return False
    rest = [minus(cell, fitted) for cell, fitted in zip(cells, _cell_sums(len(cells), parts))]
    return all([_vanishes(names, rest) for names in partings])


def judge_orders(members, paper, fits):
    """True if the fits show that two coarse-first orders give a member unequal squares."""
    if not _are_members(members) or not _is_closure(members):
        return False
    if not _is_paper(members, paper) or not isinstance(fits, tuple) or len(fits) != 4:
        return False
    order_one, order_two, cells, at = paper
    taken = [places for order in [order_one, order_two] for places in _steps_about(order, at)]
    if not all([_is_fit([members[place] for place in places], cells, parts) for places, parts in zip(taken, fits)]):
        return False
    squares = []
    for parts in fits:
        fitted = _cell_sums(len(cells), parts)
        squares.append(product_sum(fitted, fitted))
    return minus(squares[1], squares[0]) != minus(squares[3], squares[2])


def _is_closure(members):
    """True if the unequal members begin with the one-lot parting, stand in closure order and have all joins."""
    if len(set(members[0])) != 1:
        return False
    keys = [(len(set(names)), names) for names in members]
    if keys != sorted(keys):
        return False
    return all([_joined(one, other) in members for one, other in combinations(list(members), 2)])


def _is_paper(members, paper):
    """True if the value is a tuple of two coarse-first orders of the members, a table and an index of a member."""
    if not isinstance(paper, tuple) or len(paper) != 4:
        return False
    order_one, order_two, cells, at = paper
    if not _is_coarse_first(members, order_one) or not _is_coarse_first(members, order_two):
        return False
    return are_ratios(cells, len(members[0])) and _is_place(len(members), at)


def _is_coarse_first(members, order):
    """True if the value is an order of all members in which no strictly finer one stands before a coarser one."""
    if not _are_places(len(members), order) or sorted(order) != list(range(len(members))):
        return False
    steps = [members[at] for at in order]
    return not any([_is_strictly_finer(early, late) for early, late in combinations(steps, 2)])


def _steps_about(order, at):
    """The members that the order takes before the member, and these with it."""
    step = order.index(at)
    return [order[:step], order[:step + 1]]


def judge_blind(matrix, wish, paper):
    """True if the paper is zero against each row of the square matrix, but not against the wish."""
    if not _is_full(matrix) or not all([are_ratios(row, len(matrix)) for row in matrix]):
        return False
    if not are_ratios(wish, len(matrix)) or not are_ratios(paper, len(matrix)):
        return False
    if any([product_sum(row, paper) != _ZERO for row in matrix]):
        return False
    return product_sum(paper, wish) != _ZERO


def judge_deal(arrangement, design, dealt):
    """True if the arrangement deals the design into the dealt one."""
    if not _is_full(arrangement) or not _are_places(len(arrangement), arrangement):
        return False
    if len(set(arrangement)) != len(arrangement):
        return False
    if not all([_are_places(_MOST, value) and len(value) == len(arrangement) for value in [design, dealt]]):
        return False
    return all([dealt[image] == design[plot] for plot, image in enumerate(arrangement)])


def judge_loss(partings, lost):
    """True if the partings of the plots that are not lost are pairwise orthogonal."""
    if not _is_full(partings) or not _are_partings(partings):
        return False
    plots = len(partings[0])
    if not _are_places(plots, lost) or not _ascends(lost) or len(lost) == plots:
        return False
    kept = [plot for plot in range(plots) if plot not in lost]
    rest = [_first_places([names[plot] for plot in kept]) for names in partings]
    return all([_breaks(first, second) == [] for first, second in combinations(rest, 2)])


def judge_blocks(blocks, treatments, size, together):
    """True if the blocks are a design with so many treatments, so many in a block, and so often together."""
    if not all([_is_whole(number) and 1 <= number <= _MOST for number in [treatments, size, together]]):
        return False
    if not 2 <= size <= treatments or not isinstance(blocks, tuple):
        return False
    if not all([_are_places(treatments, block) and len(block) == size and _ascends(block) for block in blocks]):
        return False
    if any([left > right for left, right in zip(blocks, blocks[1:])]):
        return False
    counts = {pair: 0 for pair in combinations(range(treatments), 2)}
    for block in blocks:
        for pair in combinations(list(block), 2):
            counts[pair] = counts[pair] + 1
    return all([count == together for count in list(counts.values())])
