from itertools import combinations

from crossmeans.errors import NoPlots, TooMany, UnlikePlots
from crossmeans.partings import Parting
from crossmeans.spans import Span
from crossmeans.tables import Table
from tests.helpers import (ANY_VALUES, BIG, CrossTest, dot, every_parting, fraction, numbers, pair_of, parting,
                           partings_of, slow_marks, slow_nearest, slow_reduced)


def cells_of(tables):
    return [table.cells for table in tables]


def pairs(rows):
    return [tuple(pair_of(cell) for cell in row) for row in rows]


def mixed_tables(seed, plots, count):
    """Some tables with many zeros, of which some are sums of multiples of others."""
    cells = numbers(seed, plots * count, -2, 2)
    rows = [cells[k * plots:(k + 1) * plots] for k in range(count)]
    return [Table([(cell, 1 + k % 3) for cell in row]) for k, row in enumerate(rows)]


def fractions_of(tables):
    return [[fraction(cell) for cell in table.cells] for table in tables]


class RowsTest(CrossTest):
    def test_example(self):
        made = Span(3, [Table([0, 2, 2]), Table([1, 1, 1])])
        self.same(cells_of(made.rows), [((1, 1), (0, 1), (0, 1)), ((0, 1), (1, 1), (1, 1))])

    def test_reduced_basis(self):
        for seed in range(60):
            plots, count = 1 + seed % 6, seed % 8
            tables = mixed_tables(seed, plots, count)
            made = Span(plots, tables)
            expected = slow_reduced(fractions_of(tables))
            self.assertIs(type(made.rows), tuple)
            self.same(cells_of(made.rows), pairs(expected))
            self.same(made.dimension, len(expected))
            self.same(made.plots, plots)

    def test_by_hand(self):
        self.same(cells_of(Span(plots=3, tables=(Table([0, 0, (1, 2)]), Table([0, 2, 1]))).rows),
                  [((0, 1), (1, 1), (0, 1)), ((0, 1), (0, 1), (1, 1))])
        self.same(cells_of(Span(3, [Table([1, 2, 3]), Table([2, 4, 7])]).rows),
                  [((1, 1), (2, 1), (0, 1)), ((0, 1), (0, 1), (1, 1))])
        self.same(cells_of(Span(2, [Table([BIG, 1]), Table([BIG, 1])]).rows), [((1, 1), (1, BIG))])

    def test_no_tables(self):
        for made in (Span(3), Span(3, []), Span(3, ()), Span(3, [Table.zeros(3)] * 2)):
            self.same(made.rows, ())
            self.same(made.dimension, 0)
            self.same(Table.zeros(3) in made, True)
            self.same(Table([0, 0, 1]) in made, False)
            self.same(made.nearest(Table([1, 2, 3])).cells, ((0, 1),) * 3)
            self.same(made.square_in(Table([1, 2, 3])), (0, 1))

    def test_sixty_four_tables(self):
        table, short = Table([1, 2]), Table([1])
        self.same(Span(2, [table] * 64).dimension, 1)
        self.refuses(TooMany("tables", 64), Span, 2, [table] * 65)
        self.refuses(TooMany("tables", 64), Span, 2, [short] * 65)
        self.refuses(UnlikePlots(2, 1), Span, 2, [table] * 63 + [short])

    def test_wrong_arguments(self):
        for plots in (0, -1, -BIG):
            self.refuses(NoPlots(), Span, plots, [Table([1])] * 65)
        for plots in (17, BIG):
            self.refuses(TooMany("plots", 16), Span, plots, [Table([1])] * 65)
        self.refuses(UnlikePlots(3, 2), Span, 3, [Table([1, 2, 3]), Table([1, 2]), Table([1])])
        self.same(Span(16, [Table.mark(16, [plot]) for plot in range(16)]).dimension, 16)

    def test_a_later_change_has_no_effect(self):
        tables = [Table([1, 2])]
        made = Span(2, tables)
        tables.append(Table([0, 1]))
        self.same(made.dimension, 1)
        self.same(Table([0, 1]) in made, False)
        wide = made.widened(tables)
        self.same((made.dimension, wide.dimension, len(tables)), (1, 2, 2))


class NearestTest(CrossTest):
    def test_nearest_and_square(self):
        for seed in range(60):
            plots, count = 1 + seed % 6, seed % 7
            tables = mixed_tables(seed, plots, count)
            made = Span(plots, tables)
            table = Table([(cell, 1 + seed % 4) for cell in numbers(seed + 100, plots, -9, 9)])
            expected = slow_nearest(fractions_of(tables), [fraction(cell) for cell in table.cells])
            self.same(made.nearest(table).cells, pairs([expected])[0])
            self.same(made.square_in(table), pair_of(dot(expected, expected)))
            self.same(table in made, expected == [fraction(cell) for cell in table.cells])
            for member in tables:
                self.same(member in made, True)
                self.same(made.nearest(member).cells, member.cells)
                self.assertEqual((table - made.nearest(table)).dot(member), (0, 1))

    def test_by_hand(self):
        made = Span(3, [Table([1, 1, 1])])
        self.same(made.nearest(table=Table([1, 2, 6])).cells, ((3, 1),) * 3)
        self.same(made.square_in(table=Table([1, 2, 6])), (27, 1))
        self.same(Table([(2, 3)] * 3) in made, True)
        self.same(Table([1, 1, 2]) in made, False)
        self.same(Table([1, 1, 2]) not in made, True)

    def test_long_numbers(self):
        tables = [Table([(BIG + seed * plot, 7 + plot) for plot in range(9)]) for seed in range(5)]
        table = Table([(3 * BIG + plot * plot, 11 + plot) for plot in range(9)])
        made = Span(9, tables)
        expected = slow_nearest(fractions_of(tables), [fraction(cell) for cell in table.cells])
        self.same(made.nearest(table).cells, pairs([expected])[0])

    def test_unlike_counts(self):
        made, short = Span(3, [Table([1, 1, 1])]), Table([1, 2])
        for call in (made.nearest, made.square_in, lambda table: table in made, lambda table: table not in made):
            self.refuses(UnlikePlots(3, 2), call, short)
        for call in (Span(3).nearest, Span(3).square_in, lambda table: table in Span(3)):
            self.refuses(UnlikePlots(3, 2), call, short)


class WiderTest(CrossTest):
    def test_widened_and_joined(self):
        for seed in range(30):
            plots = 1 + seed % 6
            some, more = mixed_tables(seed, plots, seed % 4), mixed_tables(seed + 50, plots, seed % 5)
            left, right = Span(plots, some), Span(plots, more)
            expected = pairs(slow_reduced(fractions_of(some + more)))
            self.same(cells_of(left.widened(more).rows), expected)
            self.same(cells_of((left | right).rows), expected)
            self.same(cells_of((right | left).rows), expected)
            self.assertTrue(left.widened(tables=more) == (left | right))
            table = Table(numbers(seed, plots, -5, 5))
            nearest = slow_nearest(fractions_of(some + more), [fraction(cell) for cell in table.cells])
            self.same((left | right).nearest(table).cells, pairs([nearest])[0])
            self.same(left.widened(more).nearest(table).cells, pairs([nearest])[0])

    def test_limits(self):
        whole = Span(16, [Table.mark(16, [plot]) for plot in range(16)])
        self.same(whole.widened([Table([1] * 16)] * 64).dimension, 16)
        self.same((whole | whole).dimension, 16)
        self.refuses(TooMany("tables", 64), whole.widened, [Table([1] * 16)] * 65)
        self.refuses(TooMany("tables", 64), whole.widened, [Table([1])] * 65)
        self.refuses(UnlikePlots(16, 1), whole.widened, [Table([1] * 16), Table([1]), Table([1, 2])])
        self.same(whole.widened([]) == whole, True)
        self.same(whole.widened(()) == whole, True)

    def test_unlike_counts(self):
        self.refuses(UnlikePlots(2, 3), lambda: Span(2) | Span(3))
        self.refuses(UnlikePlots(3, 2), lambda: Span(3) | Span(2))

    def test_equality(self):
        left = Span(3, [Table([1, 2, 3]), Table([0, 1, 1])])
        self.same(left == Span(3, [Table([1, 3, 4]), Table([0, (1, 2), (1, 2)]), Table([1, 1, 2])]), True)
        self.same(left != Span(3, [Table([1, 3, 4]), Table([0, 1, 1])]), False)
        self.same(left == Span(3, [Table([1, 2, 3])]), False)
        self.same(left != Span(3, [Table([1, 2, 3]), Table([0, 1, 2])]), True)
        self.same(Span(2) == Span(3), False)
        self.same(Span(2) != Span(3), True)
        for value in ANY_VALUES + (Table([1, 2, 3]), parting("abc"), left.rows, list(left.rows)):
            self.same(left == value, False)
            self.same(value == left, False)
            self.same(left != value, True)


class PartingsTest(CrossTest):
    def test_of_partings(self):
        for listed in combinations(every_parting(4), 2):
            made = Span.of_partings(4, list(listed))
            self.same(cells_of(made.rows), pairs(slow_reduced(slow_marks(listed))))
        self.same(Span.of_partings(plots=2, partings=(parting("ab"),)).dimension, 2)

    def test_the_list_may_be_empty(self):
        for listed in ([], ()):
            self.same(Span.of_partings(3, listed).rows, ())
            self.same(Span.of_partings(3, listed).plots, 3)

    def test_many_marks(self):
        self.same(Span.of_partings(16, [Parting.single(16)] * 16).dimension, 16)
        self.same(Span.of_partings(9, partings_of(["abcdefghi"] * 8)).dimension, 9)
        self.same(Span.of_partings(16, partings_of(["aabbccddeeffgghh", "abbccddeeffgghha"])).dimension, 15)

    def test_errors(self):
        self.refuses(NoPlots(), Span.of_partings, 0, [parting("a")] * 17)
        self.refuses(TooMany("plots", 16), Span.of_partings, 17, [parting("a")] * 17)
        self.refuses(TooMany("partings", 16), Span.of_partings, 2, [parting("a")] * 17)
        self.refuses(UnlikePlots(2, 3), Span.of_partings, 2, [parting("ab"), parting("abc"), parting("a")])
        self.refuses(UnlikePlots(1, 3), Span.of_partings, 1, [parting("abc"), parting("abc")])
