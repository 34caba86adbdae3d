"""What the tests share: strict comparison, errors, and slow but plain ways to work things out."""

import unittest
from fractions import Fraction
from itertools import product

from crossmeans.partings import Parting

# Values as in point 8 that are no whole number; some cannot be hashed, some are equal to 0 or 1.
NO_WHOLE = (True, False, None, "", "0", "1 2", (), (0,), (1, 2), [], [0], [[1], (2, [3])], ((((((1,),),),),),))
NO_NUMBER = (True, False, None, "", "1", (), (1,), (1, 0), (0, 0), (1, 2, 3), (True, 2), (1, True), (1, None),
             ("1", 2), ((1, 2), 3), (1, [2]), [], [1], [1, 2], [(1, 2)])
ANY_VALUES = NO_WHOLE + NO_NUMBER + (0, 1, -1, 7, 10 ** 39)
BIG = 10 ** 39 + 7


class CrossTest(unittest.TestCase):
    def same(self, value, expected):
        """Equal, and of the same kinds throughout: repr tells 1 from True and a tuple from a list."""
        self.assertEqual(value, expected)
        self.assertEqual(repr(value), repr(expected))

    def refuses(self, error, call, *args, **more):
        """The call raises an error of exactly this class with exactly these attributes."""
        try:
            result = call(*args, **more)
        except Exception as caught:
            self.assertIs(type(caught), type(error), caught)
            self.assertEqual(repr(vars(caught)), repr(vars(error)))
            return
        self.fail(f"no error, but {result!r}")


def parting(text):
    """The parting whose labels are the signs of the text."""
    return Parting(list(text))


def every_parting(plots):
    """All partings of the plots, each once."""
    names = {tuple(labels.index(label) for label in labels) for labels in product(range(plots), repeat=plots)}
    return [Parting(entry) for entry in sorted(names)]


def lots_as_sets(value):
    return {frozenset(lot) for lot in value.lots}


def slow_join(first, second):
    """The names of the join, by paths."""
    plots = len(first.names)
    linked = [[first.names[p] == first.names[q] or second.names[p] == second.names[q] for q in range(plots)]
              for p in range(plots)]
    for k, p, q in product(range(plots), repeat=3):
        linked[p][q] = linked[p][q] or (linked[p][k] and linked[k][q])
    return tuple(row.index(True) for row in linked)


def slow_means(value, cells):
    """The means of a list of Fractions over the lots of the parting."""
    result = list(cells)
    for lot in value.lots:
        mean = sum((Fraction(cells[plot]) for plot in lot), Fraction(0)) / len(lot)
        for plot in lot:
            result[plot] = mean
    return result


def fraction(pair):
    return Fraction(*pair)


def fractions(rows):
    return [[Fraction(*pair) for pair in row] for row in rows]


def pair_of(number):
    """The ratio of a Fraction."""
    return (Fraction(number).numerator, Fraction(number).denominator)


def numbers(seed, count, low=-3, high=3):
    """A list of whole numbers that looks mixed and is always the same."""
    result = []
    state = seed * 7919 + 12345
    for _ in range(count):
        state = (state * 1103515245 + 12345) % 2 ** 31
        result.append(low + (state >> 8) % (high - low + 1))
    return result
