from fractions import Fraction
from itertools import product

from crossmeans.errors import (BadIndex, BadNumber, BadShape, BadWeight, BadWish, NotEstimable, TooMany, UnlikePlots,
                               ZeroTable)
from crossmeans.estimable import (balance, can_estimate, combined_cost, combined_estimate, combined_information,
                                  efficiency_of, estimate, information, is_blind, shares, wish_cost)
from crossmeans.matrices import matrix_scale, matrix_sum, solve
from crossmeans.partings import Parting
from crossmeans.strata import Strata
from crossmeans.tables import Table
from tests.helpers import (ANY_VALUES, BIG, NO_NUMBER, NO_WHOLE, CrossTest, dot, fraction, fractions, numbers, pair_of,
                           parting, partings_of, slow_marks, slow_pieces)

# Blocks and treatments: a balanced design, unbalanced ones, one treatment, treatments that are blocks, one plot.
DESIGNS = [(partings_of(texts), parting(treatments)) for texts, treatments in (
    (["aabbcc"], "xyxzyz"), (["aabb"], "xyxy"), (["aabb"], "xyzx"), (["aabbcc"], "xxyyzx"), (["aabb"], "xxyy"),
    (["aabb"], "xxxx"), (["aabb", "abab"], "xyzw"), (["a"], "x"), (["ab"], "xy"), (["aaab"], "xyxy"),
    (["aaabbb", "abcabc"], "xyzyzx"))]
BALANCED = Strata([parting("aabbcc")])
XYZ = parting("xyxzyz")
ROWS = Strata([parting("aabb")])
XY = parting("xyxy")


def slow_information(strata, weights, treatments):
    """The combined information matrix in Fractions."""
    marks = slow_marks([treatments])
    rows = [[Fraction(0) for _ in marks] for _ in marks]
    for column, mark in enumerate(marks):
        for weight, part in zip(weights, slow_pieces(strata.members, mark)):
            for row, other in enumerate(marks):
                rows[row][column] += Fraction(weight) * dot(other, part)
    return rows


def pairs(rows):
    return [[pair_of(entry) for entry in row] for row in rows]


def wishes_of(many):
    """Some wishes for so many treatments."""
    listed = [row for row in product((-1, 0, 1), repeat=many) if sum(row) == 0 and any(row)]
    return listed[:6] + [[(3 * number, 2) for number in row] for row in listed[-2:]]


def every_case():
    for at_design, (blocks, treatments) in enumerate(DESIGNS):
        for top, bottom in ((True, True), (False, True), (True, False)):
            yield at_design, Strata(blocks, top=top, bottom=bottom), treatments


class InformationTest(CrossTest):
    def test_information(self):
        for _, strata, treatments in every_case():
            for at in range(strata.many):
                lone = [int(place == at) for place in range(strata.many)]
                self.same(information(strata, at, treatments), pairs(slow_information(strata, lone, treatments)))

    def test_combined_information(self):
        for seed, strata, treatments in every_case():
            weights = numbers(seed, strata.many, 0, 3)
            expected = pairs(slow_information(strata, weights, treatments))
            self.same(combined_information(strata, treatments, weights), expected)
            thirds = [(-number, -3) for number in weights]
            self.same(combined_information(strata, treatments, thirds), matrix_scale(expected, (1, 3)))
            self.same(combined_information(strata, treatments, [0] * strata.many), matrix_scale(expected, 0))

    def test_all_weights_one(self):
        for blocks, treatments in DESIGNS:
            strata = Strata(blocks)
            sizes = treatments.sizes
            expected = [[(size if row == column else 0, 1) for column, size in enumerate(sizes)]
                        for row in range(treatments.many)]
            self.same(combined_information(strata, treatments, [1] * strata.many), expected)
            summed = matrix_scale(expected, 0)
            for at in range(strata.many):
                summed = matrix_sum(summed, information(strata, at, treatments))
            self.same(summed, expected)

    def test_by_hand(self):
        self.same(information(strata=ROWS, at=2, treatments=XY), [[(1, 1), (-1, 1)], [(-1, 1), (1, 1)]])
        self.same(information(ROWS, 1, XY), [[(0, 1)] * 2] * 2)
        self.same(combined_information(strata=ROWS, treatments=XY, weights=[1, 5, (1, 2)]),
                  [[(3, 2), (1, 2)], [(1, 2), (3, 2)]])

    def test_rows_are_new(self):
        for made in (information(ROWS, 1, XY), combined_information(ROWS, XY, [0, 0, 0])):
            made[0][0] = None
            self.same(made[1], [(0, 1), (0, 1)])
        information(ROWS, 1, XY)[0].clear()
        self.same(information(ROWS, 1, XY), [[(0, 1)] * 2] * 2)

    def test_errors_in_their_order(self):
        for value in NO_WHOLE + (-1, 3, BIG):
            self.refuses(BadIndex(value), information, ROWS, value, parting("ab"))
        self.refuses(UnlikePlots(4, 2), information, ROWS, 2, parting("ab"))
        for value in NO_NUMBER:
            self.refuses(BadNumber(2), combined_information, ROWS, parting("ab"), [-1, 1, value])
            self.refuses(BadNumber(0), combined_information, ROWS, parting("ab"), (value, value))
        self.refuses(BadWeight(1), combined_information, ROWS, parting("ab"), [0, (1, -2), -1])
        self.refuses(BadWeight(3), combined_information, ROWS, parting("ab"), [0, 1, 1, -1])
        self.refuses(UnlikePlots(4, 2), combined_information, ROWS, parting("ab"), [1])
        for weights in ([], [1, 1], (1, 2), [1] * 4, [0] * 100):
            self.refuses(BadShape(), combined_information, ROWS, XY, weights)
        self.same(combined_information(ROWS, XY, [0, 0, (0, -5)]), [[(0, 1)] * 2] * 2)


class SharesTest(CrossTest):
    def test_shares(self):
        for seed, strata, _ in every_case():
            table = Table([(number, 1 + seed) for number in numbers(seed, strata.plots, 1, 9)])
            cells = [fraction(cell) for cell in table.cells]
            expected = [dot(part, part) / dot(cells, cells) for part in slow_pieces(strata.members, cells)]
            self.same(shares(strata, table), [pair_of(share) for share in expected])
        self.same(shares(strata=ROWS, table=Table([1, 2, 3, 6])), [(18, 25), (9, 50), (1, 10)])

    def test_errors(self):
        self.refuses(ZeroTable(), shares, ROWS, Table.zeros(4))
        self.refuses(UnlikePlots(4, 3), shares, ROWS, Table.zeros(3))
        self.refuses(UnlikePlots(4, 3), shares, ROWS, Table([1, 2, 3]))
        shares(ROWS, Table([1, 0, 0, 0])).clear()
        self.same(len(shares(ROWS, Table([1, 0, 0, 0]))), 3)


class BalanceTest(CrossTest):
    def test_example(self):
        self.same(balance(Strata([Parting([0, 0, 1, 1, 2, 2])]), Parting(["x", "y", "x", "z", "y", "z"])),
                  [(0, 1), (1, 4), (3, 4)])

    def test_as_point_42_says(self):
        balanced = 0
        for _, strata, treatments in every_case():
            sizes = treatments.sizes
            whole = [[Fraction(size if row == column else 0) - Fraction(size * other, strata.plots)
                      for column, other in enumerate(sizes)] for row, size in enumerate(sizes)]
            expected = []
            for at, member in enumerate(strata.members):
                matrix = fractions(information(strata, at, treatments))
                if member.many == 1:
                    expected.append((0, 1))
                elif treatments.many == 1:
                    expected.append((0, 1) if matrix == whole else None)
                else:
                    factor = matrix[0][0] / whole[0][0]
                    right = matrix == [[factor * entry for entry in row] for row in whole]
                    expected.append(pair_of(factor) if right else None)
            expected = None if None in expected else expected
            balanced += expected is not None
            self.same(balance(strata, treatments), expected)
        self.assertGreater(balanced, 5)

    def test_by_hand(self):
        self.same(balance(strata=ROWS, treatments=XY), [(0, 1), (0, 1), (1, 1)])
        self.same(balance(ROWS, parting("xxyy")), [(0, 1), (1, 1), (0, 1)])
        self.same(balance(ROWS, parting("xyzz")), None)
        self.same(balance(BALANCED, parting("xxyyzz")), [(0, 1), (1, 1), (0, 1)])

    def test_one_treatment(self):
        self.same(balance(ROWS, parting("xxxx")), [(0, 1)] * 3)
        self.same(balance(Strata([parting("aabb")], top=False), parting("xxxx")), None)
        self.same(balance(Strata([parting("abcd")], top=False), parting("xxxx")), None)
        self.same(balance(Strata([parting("aaaa")]), parting("xxxx")), [(0, 1), (0, 1)])
        self.same(balance(Strata([parting("a")]), parting("x")), [(0, 1)])
        self.same(balance(Strata([parting("a")], top=False, bottom=False), parting("x")), [(0, 1)])

    def test_without_the_one_lot_parting(self):
        self.same(balance(Strata([parting("aabb")], top=False), XY), None)

    def test_unlike_counts(self):
        self.refuses(UnlikePlots(4, 2), balance, ROWS, parting("xy"))
        self.refuses(UnlikePlots(4, 2), balance, Strata([parting("aaaa")], bottom=False), parting("xy"))


class WishTest(CrossTest):
    def check(self, strata, at, treatments, wish, table):
        matrix = information(strata, at, treatments)
        answer = solve(matrix, list(wish))
        self.same(can_estimate(strata, at, treatments, wish), answer is not None)
        if answer is None:
            self.same(efficiency_of(strata, at, treatments, wish), (0, 1))
            for call in (lambda: estimate(strata, at, treatments, wish, table),
                         lambda: wish_cost(strata, at, treatments, wish)):
                self.has_blind_paper(matrix, wish, call)
            return False
        x = [fraction(part) for part in answer]
        wanted = [Fraction(*number) if isinstance(number, tuple) else Fraction(number) for number in wish]
        part = slow_pieces(strata.members, [fraction(cell) for cell in table.cells])[at]
        totals = [dot(mark, part) for mark in slow_marks([treatments])]
        self.same(estimate(strata, at, treatments, wish, table), pair_of(dot(x, totals)))
        self.same(wish_cost(strata, at, treatments, wish), pair_of(dot(x, wanted)))
        least = sum((number * number / size for number, size in zip(wanted, treatments.sizes)), Fraction(0))
        efficiency = least / dot(x, wanted)
        self.same(efficiency_of(strata, at, treatments, wish), pair_of(efficiency))
        self.assertTrue(0 < efficiency <= 1)
        return True

    def has_blind_paper(self, matrix, wish, call):
        with self.assertRaises(NotEstimable) as caught:
            call()
        paper = caught.exception.paper
        self.assertIs(type(paper), tuple)
        self.assertEqual(len(paper), len(matrix))
        for pair in paper:
            self.same(pair, pair_of(fraction(pair)))
        z = [fraction(pair) for pair in paper]
        self.assertEqual([dot(row, z) for row in fractions(matrix)], [0] * len(z))
        self.assertNotEqual(sum(a * (Fraction(*b) if isinstance(b, tuple) else b) for a, b in zip(z, wish)), 0)
        self.same(is_blind(matrix, wish, paper), True)

    def test_each_stratum(self):
        found = []
        for seed, strata, treatments in every_case():
            table = Table(numbers(seed, strata.plots, -9, 9))
            for at, wish in product(range(strata.many), wishes_of(treatments.many)):
                found.append(self.check(strata, at, treatments, wish, table))
        self.assertEqual({True, False}, set(found))

    def test_examples(self):
        strata = Strata([Parting([0, 0, 1, 1])])
        made = (estimate(strata, 2, Parting([0, 1, 0, 1]), [1, -1], Table([5, 2, 9, 8])),
                wish_cost(strata, 2, Parting([0, 1, 0, 1]), [1, -1]))
        self.same(made, ((2, 1), (1, 1)))

    def test_by_hand(self):
        table = Table([1, 4, 2, 6, 5, 9])
        self.same(can_estimate(strata=BALANCED, at=1, treatments=XYZ, wish=(1, -1, 0)), True)
        self.same(efficiency_of(strata=BALANCED, at=1, treatments=XYZ, wish=(1, -1, 0)), (1, 4))
        self.same(efficiency_of(BALANCED, 2, XYZ, [0, (1, 7), (-1, 7)]), (3, 4))
        self.same(wish_cost(strata=BALANCED, at=2, treatments=XYZ, wish=[1, -1, 0]), (4, 3))
        self.same(estimate(strata=BALANCED, at=2, treatments=XYZ, wish=[1, -1, 0], table=table), (-2, 1))
        self.same(can_estimate(BALANCED, 0, XYZ, [1, -1, 0]), False)

    def test_combined(self):
        for seed, strata, treatments in every_case():
            table = Table([(number, 2) for number in numbers(seed, strata.plots, -9, 9)])
            cells = [fraction(cell) for cell in table.cells]
            for weights in ([1] * strata.many, numbers(seed, strata.many, 0, 2), [0] * strata.many):
                matrix = slow_information(strata, weights, treatments)
                parts = slow_pieces(strata.members, cells)
                totals = [sum((weight * dot(mark, part) for weight, part in zip(weights, parts)), Fraction(0))
                          for mark in slow_marks([treatments])]
                for wish in wishes_of(treatments.many)[:4]:
                    answer = solve(pairs(matrix), list(wish))
                    calls = (lambda: combined_estimate(strata, treatments, wish, table, weights=weights),
                             lambda: combined_cost(strata, treatments, wish, weights=weights))
                    if answer is None:
                        for call in calls:
                            self.has_blind_paper(pairs(matrix), wish, call)
                    else:
                        x = [fraction(part) for part in answer]
                        self.same(calls[0](), pair_of(dot(x, totals)))
                        wanted = [Fraction(*number) if isinstance(number, tuple) else number for number in wish]
                        self.same(calls[1](), pair_of(dot(x, wanted)))

    def test_combined_by_hand(self):
        table = Table([1, 4, 2, 6, 5, 9])
        # Within the blocks x has the total -7/2 and y has -1/2; the matrix has 1 and -1/2 there.
        self.same(information(BALANCED, 2, XYZ)[0], [(1, 1), (-1, 2), (-1, 2)])
        # With all weights 1 the estimate is the difference of the means of the treatments.
        self.same(combined_estimate(strata=BALANCED, treatments=XYZ, wish=[1, -1, 0], table=table, weights=[1, 1, 1]),
                  (-3, 1))
        self.same(combined_cost(strata=BALANCED, treatments=XYZ, wish=[1, -1, 0], weights=[1, 1, 1]), (1, 1))
        for weights in ([0, 0, 1], [5, 0, 1], (0, 0, (7, 2))):
            self.same(combined_estimate(BALANCED, XYZ, [1, -1, 0], table, weights=weights), (-2, 1))
        self.same(combined_cost(BALANCED, XYZ, [1, -1, 0], weights=[0, 0, 2]), (2, 3))

    def test_long_numbers(self):
        chain = Strata([Parting([min(plot, k) for plot in range(16)]) for k in range(16)])
        weights = [(BIG % 10 ** 6 + k, 10 ** 5 + 3 * k) for k in range(16)]
        wish = [BIG] + [0] * 14 + [-BIG]
        cost = combined_cost(chain, Parting.single(16), wish, weights=weights)
        self.assertGreater(cost[0], 0)
        with self.assertRaises(NotEstimable):
            combined_cost(chain, Parting.single(16), wish, weights=[(0, 1)] * 3 + weights[3:])


class WrongWishTest(CrossTest):
    def calls(self, wish, treatments=XYZ, at=2, cells=6):
        table = Table.zeros(cells)
        return (lambda: can_estimate(BALANCED, at, treatments, wish),
                lambda: estimate(BALANCED, at, treatments, wish, table),
                lambda: wish_cost(BALANCED, at, treatments, wish),
                lambda: efficiency_of(BALANCED, at, treatments, wish))

    def combined(self, wish, weights, treatments=XYZ, cells=6):
        return (lambda: combined_estimate(BALANCED, treatments, wish, Table.zeros(cells), weights=weights),
                lambda: combined_cost(BALANCED, treatments, wish, weights=weights))

    def test_wrong_numbers(self):
        for value in NO_NUMBER:
            for call in self.calls([1, value, value], parting("ab")) + self.combined([1, value], [-1], parting("ab")):
                self.refuses(BadNumber(1), call)
            for call in self.combined([1, -1, 0], [0, 0, 1, value], parting("ab")):
                self.refuses(BadNumber(3), call)

    def test_wrong_wishes(self):
        for wish in ([], [0, 0, 0], (0, 0), [1, -1], (1, -1), [1, -1, 0, 0], [1, 1, 1], [(1, 2), (1, 2), (-1, 3)],
                     [0] * 100, [1] * 17):
            for call in self.calls(wish) + self.combined(wish, [1, 1, 1]) + self.combined(wish, [0, 0, 0]):
                self.refuses(BadWish(), call)

    def test_one_treatment_has_no_wish(self):
        for wish in ([0], [1], [], [1, -1]):
            for call in self.calls(wish, Parting.one(6)) + self.combined(wish, [1, 1, 1], Parting.one(6)):
                self.refuses(BadWish(), call)

    def test_order_for_one_stratum(self):
        for value in NO_WHOLE + (-1, 3, BIG):
            for call in self.calls([None], parting("ab"), at=value):
                self.refuses(BadIndex(value), call)
        for call in self.calls([0, 0], parting("ab")):
            self.refuses(UnlikePlots(6, 2), call)
        self.refuses(UnlikePlots(6, 2), estimate, BALANCED, 2, parting("ab"), [1], Table([1, 2, 3]))
        self.refuses(UnlikePlots(6, 3), estimate, BALANCED, 2, XYZ, [1], Table([1, 2, 3]))
        # A wrong wish comes before one that cannot be estimated.
        for call in self.calls([1, 1, 1], at=0):
            self.refuses(BadWish(), call)

    def test_order_for_combined_strata(self):
        for call in self.combined([None], [None], parting("ab")):
            self.refuses(BadNumber(0), call)
        for call in self.combined([1], [-1, None], parting("ab")):
            self.refuses(BadNumber(1), call)
        for call in self.combined([1], [1, -1], parting("ab")):
            self.refuses(BadWeight(1), call)
        for call in self.combined([1], [1], parting("ab")):
            self.refuses(UnlikePlots(6, 2), call)
        self.refuses(UnlikePlots(6, 3), combined_estimate, BALANCED, XYZ, [1], Table([1, 2, 3]), weights=[1])
        for call in self.combined([1], [1]) + self.combined([0, 0, 0], []) + self.combined([1, -1, 0], [0] * 4):
            self.refuses(BadShape(), call)
        for call in self.combined([1], [0, 0, 0]):
            self.refuses(BadWish(), call)

    def test_arguments_stay(self):
        wish, weights = [1, -1, 0], [1, (2, 4), 0]
        for call in self.calls(wish) + self.combined(wish, weights):
            call()
        self.same((wish, weights), ([1, -1, 0], [1, (2, 4), 0]))


class BlindTest(CrossTest):
    MATRIX = [[1, -1], [-1, 1]]

    def test_right_papers(self):
        for paper in (((1, 1), (1, 1)), ((-3, 2), (-3, 2))):
            self.same(is_blind(self.MATRIX, [1, 0], paper), True)
            self.same(is_blind(self.MATRIX, [1, -1], paper), False)
            self.same(is_blind(self.MATRIX, [0, 0], paper), False)
        self.same(is_blind(matrix=((0,),), wish=((1, 2),), paper=((5, 1),)), True)

    def test_the_two_conditions_alone(self):
        # The rows of the matrix count here, and not its columns.
        self.same(is_blind([[0, 1], [0, 0]], [1, 0], ((1, 1), (0, 1))), True)
        self.same(is_blind([[0, 0], [1, 0]], [1, 0], ((1, 1), (0, 1))), False)
        self.same(is_blind([[0, 1], [0, 0]], [1, 5], ((1, 1), (0, 1))), True)
        for entries in product((-1, 0, 1), repeat=4):
            matrix = [list(entries[:2]), list(entries[2:])]
            for paper, wish in product(product((-1, 0, 2), repeat=2), ([1, 0], [1, -1])):
                right = all(sum(a * b for a, b in zip(row, paper)) == 0 for row in matrix)
                right = right and sum(a * b for a, b in zip(paper, wish)) != 0
                self.same(is_blind(matrix, wish, tuple((number, 1) for number in paper)), right)

    def test_spoilt_papers(self):
        one = (1, 1)
        for paper in ANY_VALUES + ([one, one], (one,), (one, one, one), (one, [1, 1]), (one, 1), (1, one), (one, True),
                                   (one, (2, 2)), ((-1, -1), one), (one, (1, 0)), (one, (1, True)), (one, (True, 1)),
                                   (one, None), ("1", "1"), (one, (one, one)), ((0, 1), (0, 2))):
            self.same(is_blind(self.MATRIX, [1, 0], paper), False)

    def test_errors_in_their_order(self):
        for paper in (None, ((1, 1), (1, 1))):
            self.refuses(BadShape(), is_blind, [], [None], paper)
            self.refuses(BadShape(), is_blind, [[]], [None], paper)
            self.refuses(BadShape(), is_blind, [[1], [1, None]], [None], paper)
            self.refuses(TooMany("rows", 16), is_blind, [[0]] * 17, [None], paper)
            self.refuses(TooMany("rows", 16), is_blind, [[None] * 17], [None], paper)
            for value in NO_NUMBER:
                self.refuses(BadNumber(3), is_blind, [[0, 0], [0, value]], [None], paper)
                self.refuses(BadNumber(1), is_blind, [[0, 0]], [0, value], paper)
            self.refuses(BadShape(), is_blind, [[0, 0]], [1], paper)
            self.refuses(BadShape(), is_blind, [[0], [0]], [1, 1], paper)
            for wish in ([], [1], [1, 0, 0], (1, 0, 0), [0] * 17):
                self.refuses(BadShape(), is_blind, self.MATRIX, wish, paper)

    def test_arguments_stay(self):
        matrix, wish = [[1, -1], [-1, 1]], [1, 0]
        is_blind(matrix, wish, ((1, 1), (1, 1)))
        self.same((matrix, wish), ([[1, -1], [-1, 1]], [1, 0]))
