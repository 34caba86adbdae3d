from fractions import Fraction
from itertools import product

from crossmeans.errors import BadNumber, BadPlot, NoPlots, TooMany, UnlikePlots
from crossmeans.partings import Parting
from crossmeans.tables import (Table, is_constant, lot_totals, means, means_by, orders_agree, residue, table_sum)
from tests.helpers import (ANY_VALUES, BIG, NO_NUMBER, NO_WHOLE, CrossTest, every_parting, fraction, numbers, pair_of,
                           parting, slow_means)


def pairs(cells):
    return tuple(pair_of(cell) for cell in cells)


class TableTest(CrossTest):
    def test_cells(self):
        made = Table([1, (2, -4), (0, 5), -BIG])
        self.same(made.cells, ((1, 1), (-1, 2), (0, 1), (-BIG, 1)))
        self.same(made.plots, 4)
        self.same(Table((1, 2)).cells, ((1, 1), (2, 1)))
        self.same(Table(cells=[(1, 2)]).cells, ((1, 2),))

    def test_counts(self):
        self.refuses(NoPlots(), Table, [])
        self.refuses(NoPlots(), Table, ())
        self.same(Table([0] * 16).plots, 16)
        self.refuses(TooMany("plots", 16), Table, [0] * 17)
        self.refuses(TooMany("plots", 16), Table, [None] * 17)

    def test_wrong_cells(self):
        for value in NO_NUMBER:
            self.refuses(BadNumber(0), Table, [value])
            self.refuses(BadNumber(2), Table, [1, (1, 2), value, value])

    def test_a_later_change_has_no_effect(self):
        cells = [1, 2]
        made = Table(cells)
        cells[0] = 9
        self.same(made.cells, ((1, 1), (2, 1)))
        self.same(cells, [9, 2])

    def test_sums_and_products(self):
        made = Table([1, (1, 2), -3])
        self.same(made.cell_sum(), (-3, 2))
        self.same(made.square(), (41, 4))
        self.same(made.dot(Table([2, 4, (1, 3)])), (3, 1))
        self.same(made.dot(table=made), made.square())
        self.same(Table([BIG, -BIG]).square(), (2 * BIG * BIG, 1))

    def test_is_zero(self):
        self.same(Table([0, (0, -3)]).is_zero(), True)
        self.same(Table([0, (1, 9)]).is_zero(), False)

    def test_zeros(self):
        self.same(Table.zeros(3).cells, ((0, 1),) * 3)
        self.same(Table.zeros(plots=16).plots, 16)

    def test_mark(self):
        self.same(Table.mark(4, [2, 0, 2]).cells, ((1, 1), (0, 1), (1, 1), (0, 1)))
        self.same(Table.mark(2, []).cells, ((0, 1), (0, 1)))
        self.same(Table.mark(plots=2, lot=(1,)).cells, ((0, 1), (1, 1)))
        self.same(Table.mark(3, (1, 2)).cells, ((0, 1), (1, 1), (1, 1)))

    def test_mark_with_wrong_plots(self):
        for value in NO_WHOLE + (-1, 3, BIG):
            self.refuses(BadPlot(value), Table.mark, 3, [0, value, None])
        for call in (Table.zeros, lambda plots: Table.mark(plots, [99])):
            for plots in (0, -1, -BIG):
                self.refuses(NoPlots(), call, plots)
            for plots in (17, BIG):
                self.refuses(TooMany("plots", 16), call, plots)

    def test_operators(self):
        left, right = Table([1, (1, 2)]), Table([(2, 3), (1, 2)])
        self.same((left + right).cells, ((5, 3), (1, 1)))
        self.same((left - right).cells, ((1, 3), (0, 1)))
        self.same((-left).cells, ((-1, 1), (-1, 2)))
        self.same((left * 3).cells, ((3, 1), (3, 2)))
        self.same((left * (2, -4)).cells, ((-1, 2), (-1, 4)))
        self.same((left * 0).cells, ((0, 1), (0, 1)))
        self.same(left.cells, ((1, 1), (1, 2)))
        self.same(right.cells, ((2, 3), (1, 2)))

    def test_wrong_factors(self):
        for value in NO_NUMBER:
            self.refuses(BadNumber(0), lambda: Table([1]) * value)

    def test_unlike_counts(self):
        two, three = Table([1, 2]), Table([1, 2, 3])
        self.refuses(UnlikePlots(2, 3), lambda: two + three)
        self.refuses(UnlikePlots(3, 2), lambda: three - two)
        self.refuses(UnlikePlots(2, 3), two.dot, three)

    def test_equality(self):
        self.same(Table([1, (1, 2)]) == Table([(2, 2), (-2, -4)]), True)
        self.same(Table([1, (1, 2)]) != Table([(2, 2), (-2, -4)]), False)
        self.same(Table([1, 2]) == Table([2, 1]), False)
        self.same(Table([0]) == Table([0, 0]), False)
        self.same(Table([0]) != Table([0, 0]), True)
        made = Table([0, 1])
        for value in ANY_VALUES + (made.cells, list(made.cells), parting("ab")):
            self.same(made == value, False)
            self.same(value == made, False)
            self.same(made != value, True)

    def test_iteration(self):
        self.same(list(Table([3, (1, 2), 3])), [(3, 1), (1, 2), (3, 1)])

    def test_table_sum(self):
        self.same(table_sum(2, Table([1, 2]), Table([(1, 2), 0]), Table([1, 1])).cells, ((5, 2), (3, 1)))
        self.same(table_sum(3).cells, ((0, 1),) * 3)
        self.same(table_sum(plots=1).cells, ((0, 1),))
        self.refuses(NoPlots(), table_sum, 0, Table([1]))
        self.refuses(TooMany("plots", 16), table_sum, 17)
        self.refuses(UnlikePlots(3, 2), table_sum, 3, Table([1, 2, 3]), Table([1, 2]), Table([1]))
        self.refuses(UnlikePlots(1, 2), table_sum, 1, Table([1, 2]), Table([1, 2]))


class MeansTest(CrossTest):
    def test_example(self):
        self.same(means(Parting([0, 0, 1]), Table([1, 2, 5])).cells, ((3, 2), (3, 2), (5, 1)))

    def test_means_of_all_partings(self):
        table = Table([1, (1, 2), -3, BIG])
        cells = [fraction(cell) for cell in table.cells]
        for made in every_parting(4):
            slow = slow_means(made, cells)
            self.same(means(made, table).cells, pairs(slow))
            self.same(residue(made, table).cells, pairs(a - b for a, b in zip(cells, slow)))
            totals = [pair_of(sum(cells[plot] for plot in lot)) for lot in made.lots]
            self.same(lot_totals(made, table), totals)
            self.same(is_constant(made, table), all(slow[plot] == cells[plot] for plot in range(4)))

    def test_is_constant(self):
        self.same(is_constant(parting("aabb"), Table([1, (2, 2), 3, (6, 2)])), True)
        self.same(is_constant(parting("aabb"), Table([1, 1, 3, 4])), False)
        self.same(is_constant(parting=parting("ab"), table=Table([1, 2])), True)

    def test_means_by(self):
        first, second, table = parting("aabb"), parting("abbb"), Table([1, 2, 5, 9])
        cells = [Fraction(cell) for cell in (1, 2, 5, 9)]
        self.same(means_by([first, second], table).cells, pairs(slow_means(second, slow_means(first, cells))))
        self.same(means_by((second, first), table).cells, pairs(slow_means(first, slow_means(second, cells))))
        self.assertFalse(means_by([first, second], table) == means_by([second, first], table))
        self.assertTrue(means_by([], table) == table)
        self.assertTrue(means_by((), table=table) == table)
        self.assertTrue(means_by([first] * 16, table) == means(first, table))

    def test_means_by_errors(self):
        listed = [parting("ab")] * 17
        self.refuses(TooMany("partings", 16), means_by, listed, Table([1]))
        self.refuses(UnlikePlots(2, 3), means_by, [parting("ab"), parting("abc")], Table([1]))
        self.refuses(UnlikePlots(2, 1), means_by, [parting("ab"), parting("aa")], Table([1]))
        self.refuses(UnlikePlots(1, 2), means_by, [parting("a"), parting("ab")], Table([1, 2]))

    def test_orders_agree(self):
        first, second = parting("aab"), parting("abb")
        self.same(orders_agree(first, second, Table([1, 0, 0])), False)
        self.same(orders_agree(first, second, Table([1, 1, 1])), True)
        self.same(orders_agree(first=first, second=first, table=Table([1, 2, 3])), True)
        for one, other in product(every_parting(4), repeat=2):
            cells = numbers(3, 4, -9, 9)
            agree = (slow_means(one, slow_means(other, cells)) == slow_means(other, slow_means(one, cells)))
            self.same(orders_agree(one, other, Table(cells)), agree)

    def test_unlike_counts(self):
        two, three = parting("ab"), Table([1, 2, 3])
        for call in (lot_totals, means, residue, is_constant):
            self.refuses(UnlikePlots(2, 3), call, two, three)
        self.refuses(UnlikePlots(2, 3), orders_agree, two, parting("abc"), Table([1]))
        self.refuses(UnlikePlots(2, 1), orders_agree, two, parting("aa"), Table([1]))
        self.refuses(UnlikePlots(2, 3), orders_agree, two, parting("aa"), three)

    def test_lists_are_new(self):
        made, table = parting("ab"), Table([1, 2])
        lot_totals(made, table).clear()
        self.same(lot_totals(made, table), [(1, 1), (2, 1)])
