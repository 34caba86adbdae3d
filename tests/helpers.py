"""What the tests share: strict comparison, errors, and slow but plain ways to work things out."""

import unittest
from fractions import Fraction
from itertools import product

from crossmeans.partings import Parting

# Values as in point 8 that are no whole number; some cannot be hashed, some are equal to 0 or 1.
NO_WHOLE = (True, False, None, "", "0", "1 2", (), (0,), (1, 2), [], [0], [[1], (2, [3])], ((((((1,),),),),),))
NO_NUMBER = (True, False, None, "", "1", (), (1,), (1, 0), (0, 0), (1, 2, 3), (True, 2), (1, True), (1, None),
             ("1", 2), ((1, 2), 3), (1, [2]), [], [1], [1, 2], [(1, 2)])
ANY_VALUES = NO_WHOLE + NO_NUMBER + (0, 1, -1, 7, 10 ** 39)
BIG = 10 ** 39 + 7


class CrossTest(unittest.TestCase):
    def same(self, value, expected):
        """Equal, and of the same kinds throughout: repr tells 1 from True and a tuple from a list."""
        self.assertEqual(value, expected)
        self.assertEqual(repr(value), repr(expected))

    def refuses(self, error, call, *args, **more):
        """The call raises an error of exactly this class with exactly these attributes."""
        try:
            result = call(*args, **more)
        except Exception as caught:
            self.assertIs(type(caught), type(error), caught)
            self.assertEqual(repr(vars(caught)), repr(vars(error)))
            return
        self.fail(f"no error, but {result!r}")


def parting(text):
    """The parting whose labels are the signs of the text."""
    return Parting(list(text))


def partings_of(texts):
    return [parting(text) for text in texts]


def names_of(partings):
    return [made.names for made in partings]


def every_parting(plots):
    """All partings of the plots, each once."""
    names = {tuple(labels.index(label) for label in labels) for labels in product(range(plots), repeat=plots)}
    return [Parting(entry) for entry in sorted(names)]


def lots_as_sets(value):
    return {frozenset(lot) for lot in value.lots}


def slow_join(first, second):
    """The names of the join, by paths."""
    plots = len(first.names)
    linked = [[first.names[p] == first.names[q] or second.names[p] == second.names[q] for q in range(plots)]
              for p in range(plots)]
    for k, p, q in product(range(plots), repeat=3):
        linked[p][q] = linked[p][q] or (linked[p][k] and linked[k][q])
    return tuple(row.index(True) for row in linked)


def slow_means(value, cells):
    """The means of a list of Fractions over the lots of the parting."""
    result = list(cells)
    for lot in value.lots:
        mean = sum((Fraction(cells[plot]) for plot in lot), Fraction(0)) / len(lot)
        for plot in lot:
            result[plot] = mean
    return result


def fraction(pair):
    return Fraction(*pair)


def fractions(rows):
    return [[Fraction(*pair) for pair in row] for row in rows]


def pair_of(number):
    """The ratio of a Fraction."""
    return (Fraction(number).numerator, Fraction(number).denominator)


def numbers(seed, count, low=-3, high=3):
    """A list of whole numbers that looks mixed and is always the same."""
    result = []
    state = seed * 7919 + 12345
    for _ in range(count):
        state = (state * 1103515245 + 12345) % 2 ** 31
        result.append(low + (state >> 8) % (high - low + 1))
    return result


def mixed_lists(plots, count, size):
    """Some lists of partings that are always the same."""
    listed = every_parting(plots)
    return [[listed[at] for at in numbers(seed, 1 + seed % size, 0, len(listed) - 1)] for seed in range(count)]


def slow_finer(first, second):
    return all(any(lot <= other for other in lots_as_sets(second)) for lot in lots_as_sets(first))


def slow_orthogonal(first, second):
    """True if each two lots within one lot of the join meet in proportion."""
    joined = slow_join(first, second)
    for a, b in product(range(first.plots), repeat=2):
        if joined[a] == joined[b]:
            common = sum(pair == (first.names[a], second.names[b]) for pair in zip(first.names, second.names))
            sizes = first.names.count(first.names[a]) * second.names.count(second.names[b])
            if common * joined.count(joined[a]) != sizes:
                return False
    return True


def slow_closure(partings, top, bottom):
    """The names of all joins of one or more, in closure order."""
    plots = partings[0].plots
    given = list(partings) + [Parting([0] * plots)] * top + [Parting(list(range(plots)))] * bottom
    found = {made.names for made in given}
    while True:
        more = found | {slow_join(Parting(one), Parting(other)) for one in found for other in found}
        if more == found:
            return sorted(found, key=lambda names: (len(set(names)), names))
        found = more


def dot(left, right):
    return sum((Fraction(a) * b for a, b in zip(left, right)), Fraction(0))


def slow_reduced(rows):
    """The reduced basis of the span of some rows, lists of Fractions."""
    rest = [[Fraction(cell) for cell in row] for row in rows]
    done = []
    for at in range(len(rest[0]) if rest else 0):
        found = [row for row in rest if row[at] != 0]
        if found:
            lead = [cell / found[0][at] for cell in found[0]]
            rest.remove(found[0])
            rest = [[cell - row[at] * other for cell, other in zip(row, lead)] for row in rest]
            done = [[cell - row[at] * other for cell, other in zip(row, lead)] for row in done] + [lead]
    return done


def slow_nearest(rows, cells):
    """The nearest point of the span of some rows, by an orthogonal basis of Fractions."""
    basis = []
    result = [Fraction(0)] * len(cells)
    for row in rows:
        for made in basis:
            row = [cell - dot(row, made) / dot(made, made) * other for cell, other in zip(row, made)]
        if any(row):
            basis.append(row)
            result = [cell + dot(cells, row) / dot(row, row) * other for cell, other in zip(result, row)]
    return result


def slow_marks(partings):
    """The marks of all lots of the partings, lists of 0 and 1."""
    return [[int(plot in lot) for plot in range(made.plots)] for made in partings for lot in made.lots]


def slow_pieces(members, cells):
    """Each piece: nearest in the span of the member minus nearest in the span of all strictly coarser ones."""
    pieces = []
    for member in members:
        above = [high for high in members if high.names != member.names and (high | member).names == high.names]
        own = slow_nearest(slow_marks([member]), cells)
        pieces.append([a - b for a, b in zip(own, slow_nearest(slow_marks(above), cells))])
    return pieces


def every_tree(names):
    """All trees with exactly these factors, from left to right in any order."""
    if len(names) == 1:
        return [("factor", names[0])]
    trees = []
    for flags in product((True, False), repeat=len(names)):
        lefts = [name for name, flag in zip(names, flags) if flag]
        rights = [name for name, flag in zip(names, flags) if not flag]
        if lefts and rights:
            trees += [(kind, left, right) for kind in ("cross", "nest") for left in every_tree(lefts)
                      for right in every_tree(rights)]
    return trees


def factors_of(tree):
    return [tree[1]] if tree[0] == "factor" else factors_of(tree[1]) + factors_of(tree[2])
