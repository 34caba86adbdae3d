from fractions import Fraction
from itertools import product

from crossmeans.errors import BadNumber, BadShape, NoPlots, TooMany
from crossmeans.matrices import (apply_matrix, blind_vector, identity, is_projector, matrix_product, matrix_scale,
                                 matrix_sum, projector, solve, trace, transpose)
from crossmeans.tables import Table, means
from tests.helpers import (BIG, NO_NUMBER, CrossTest, every_parting, fraction, fractions, numbers, pair_of, parting)


def grid(seed, rows, columns, low=-3, high=3):
    entries = numbers(seed, rows * columns, low, high)
    return [entries[row * columns:(row + 1) * columns] for row in range(rows)]


def pairs(rows):
    return [[pair_of(entry) for entry in row] for row in rows]


def slow_product(left, right):
    return [[sum((Fraction(a) * b for a, b in zip(row, column)), Fraction(0)) for column in zip(*right)]
            for row in left]


def slow_solve(matrix, right):
    """The answer with 0 at each free column, by plain elimination with Fractions."""
    rows = [[Fraction(entry) for entry in row] + [Fraction(number)] for row, number in zip(matrix, right)]
    width = len(matrix[0])
    pivots = []
    for column in range(width):
        at = next((k for k in range(len(pivots), len(rows)) if rows[k][column]), None)
        if at is None:
            continue
        top = len(pivots)
        rows[top], rows[at] = rows[at], rows[top]
        rows[top] = [entry / rows[top][column] for entry in rows[top]]
        for k in range(len(rows)):
            if k != top:
                rows[k] = [a - rows[k][column] * b for a, b in zip(rows[k], rows[top])]
        pivots.append(column)
    if any(row[width] for row in rows[len(pivots):]):
        return None
    answer = [Fraction(0)] * width
    for row, column in zip(rows, pivots):
        answer[column] = row[width]
    return answer


# Each takes a matrix as its first argument, beside others that are right.
TAKERS = (
    lambda matrix: matrix_sum(matrix, [[1]]), lambda matrix: matrix_sum([[1]], matrix),
    lambda matrix: matrix_product(matrix, [[1]]), lambda matrix: matrix_product([[1]], matrix),
    lambda matrix: matrix_scale(matrix, 1), transpose, trace, is_projector,
    lambda matrix: apply_matrix(matrix, Table([1])),
    lambda matrix: solve(matrix, [1]), lambda matrix: blind_vector(matrix, [1]),
)


class ArgumentTest(CrossTest):
    def test_shapes(self):
        for call in TAKERS:
            for matrix in ([], (), [[]], [[], []], [[1], []], [[], [1]], [[1, 2], [3]], [[1], [2, 3]],
                           [[None], [1, 2]], [[1]] * 16 + [[1, 2]], [[1] * 17, [1]]):
                self.refuses(BadShape(), call, matrix)

    def test_limits(self):
        for call in TAKERS:
            for matrix in ([[1]] * 17, [[1] * 17], [[None] * 17] * 17, [[None]] * 17):
                self.refuses(TooMany("rows", 16), call, matrix)

    def test_numbers(self):
        for call in TAKERS:
            for value in NO_NUMBER:
                self.refuses(BadNumber(0), call, [[value]])
                self.refuses(BadNumber(5), call, [[1, 2, 3], [4, (5, 6), value], [value, 8, 9]])
                self.refuses(BadNumber(2), call, ((1, 2), (value, value)))

    def test_the_first_argument_comes_first(self):
        for call in (matrix_sum, matrix_product):
            self.refuses(BadNumber(0), call, [[True]], [])
            self.refuses(BadShape(), call, [], [[True]])
            self.refuses(TooMany("rows", 16), call, [[1]] * 17, [[None]])
            self.refuses(BadNumber(0), call, [[1], [2]], [[None, 2, 3]])
            self.refuses(BadShape(), call, left=[[1], [2]], right=[[1], [2], [3]])
        self.refuses(BadNumber(1), matrix_scale, [[1], [None]], "x")
        self.refuses(BadShape(), matrix_scale, [[1], []], "x")
        for value in NO_NUMBER:
            self.refuses(BadNumber(0), matrix_scale, [[1], [2]], value)

    def test_rows_may_be_tuples(self):
        self.same(transpose([(1, 2)]), [[(1, 1)], [(2, 1)]])
        self.same(transpose(((1, 2), (3, 4))), [[(1, 1), (3, 1)], [(2, 1), (4, 1)]])
        self.same(transpose([[(1, 2), (3, -6)]]), [[(1, 2)], [(-1, 2)]])

    def test_arguments_stay_and_rows_are_new(self):
        matrix = [[1, 2], [(2, 4), 4]]
        results = [transpose(matrix), matrix_sum(matrix, matrix), matrix_scale(matrix, 1),
                   matrix_product(matrix, matrix), identity(3), projector(parting("aaa"))]
        for result in results:
            self.assertEqual([type(row) for row in result], [list] * len(result))
            self.assertEqual(len({id(row) for row in result}), len(result))
            result[0][0] = None
        self.same(matrix, [[1, 2], [(2, 4), 4]])


class ArithmeticTest(CrossTest):
    def test_identity(self):
        self.same(identity(2), [[(1, 1), (0, 1)], [(0, 1), (1, 1)]])
        self.same(identity(plots=1), [[(1, 1)]])
        self.assertEqual(len(identity(16)), 16)
        for plots in (0, -BIG):
            self.refuses(NoPlots(), identity, plots)
        for plots in (17, BIG):
            self.refuses(TooMany("plots", 16), identity, plots)

    def test_projector(self):
        self.same(projector(parting("aba")), [[(1, 2), (0, 1), (1, 2)], [(0, 1), (1, 1), (0, 1)],
                                              [(1, 2), (0, 1), (1, 2)]])
        table = Table([1, (1, 2), -3, 5])
        for made in every_parting(4):
            matrix = projector(parting=made)
            self.assertTrue(apply_matrix(matrix, table) == means(made, table))
            self.same(is_projector(matrix), True)
            self.same(trace(matrix), (made.many, 1))

    def test_against_fractions(self):
        for seed in range(12):
            left, right, other = grid(seed, 3, 4), grid(seed + 50, 4, 2), grid(seed + 90, 3, 4)
            self.same(matrix_product(left, right), pairs(slow_product(left, right)))
            self.same(matrix_sum(left, other), pairs([[a + b for a, b in zip(x, y)] for x, y in zip(left, other)]))
            self.same(matrix_scale(left, (2, -6)), pairs([[Fraction(-entry, 3) for entry in row] for row in left]))
            self.same(transpose(left), pairs([list(column) for column in zip(*left)]))

    def test_keywords(self):
        self.same(matrix_scale(matrix=[[1]], number=2), [[(2, 1)]])
        self.same(transpose(matrix=[[1]]), [[(1, 1)]])
        self.same(trace(matrix=[[1, 2], [3, (1, 2)]]), (3, 2))
        self.same(apply_matrix(matrix=[[2]], table=Table([3])).cells, ((6, 1),))
        self.same(is_projector(matrix=[[1]]), True)
        self.same(solve(matrix=[[2]], right=[3]), [(3, 2)])
        self.same(blind_vector(matrix=[[2]], right=[3]), None)

    def test_shapes_that_do_not_fit(self):
        self.refuses(BadShape(), matrix_sum, [[1, 2]], [[1], [2]])
        self.refuses(BadShape(), matrix_sum, [[1, 2]], [[1, 2], [3, 4]])
        self.refuses(BadShape(), matrix_sum, [[1, 2]], [[1]])
        self.refuses(BadShape(), matrix_product, [[1, 2]], [[1, 2]])
        self.refuses(BadShape(), trace, [[1, 2]])
        self.refuses(BadShape(), apply_matrix, [[1, 2]], Table([1, 2]))
        self.refuses(BadShape(), apply_matrix, [[1, 2]], Table([1]))
        self.refuses(BadShape(), apply_matrix, [[1, 2], [3, 4]], Table([1, 2, 3]))
        self.refuses(BadNumber(0), apply_matrix, [[None, 2]], Table([1]))

    def test_apply_matrix(self):
        self.same(apply_matrix([[1, (1, 2)], [0, -1]], Table([3, 4])).cells, ((5, 1), (-4, 1)))

    def test_is_projector(self):
        for matrix, right in (([[1]], True), ([[0]], True), ([[2]], False), ([[(1, 2)]], False), ([[1, 0]], False),
                              ([[1], [0]], False), ([[1, 0], [0, 0]], True), ([[1, 1], [0, 0]], False),
                              ([[(1, 2), (1, 2)], [(2, 4), (3, 6)]], True), ([[(9, 25), (12, 25)],
                                                                             [(12, 25), (16, 25)]], True),
                              ([[0, 1], [1, 0]], False)):
            self.same(is_projector(matrix), right)

    def test_sixteen_rows_of_long_numbers(self):
        matrix = [[BIG + row if row == column else row - column for column in range(16)] for row in range(16)]
        self.same(matrix_product(matrix, identity(16)), pairs(matrix))
        self.same(trace(matrix), (16 * BIG + 120, 1))


class SolveTest(CrossTest):
    def test_examples(self):
        self.same(solve([[1, 1], [2, 2]], [3, 6]), [(3, 1), (0, 1)])
        self.same(solve([[1, 1], [2, 2]], [3, 5]), None)

    def test_free_columns(self):
        self.same(solve([[0, 2]], [3]), [(0, 1), (3, 2)])
        self.same(solve([[0, 0]], [0]), [(0, 1), (0, 1)])
        self.same(solve([[1, 2, 0], [0, 0, 3]], [4, (1, 2)]), [(4, 1), (0, 1), (1, 6)])
        self.same(solve(((1, 2),), (5,)), [(5, 1), (0, 1)])

    def test_no_answer(self):
        self.same(solve([[0]], [1]), None)
        self.same(solve([[1], [1]], [1, 2]), None)

    def check(self, matrix, right):
        slow = slow_solve(matrix, right)
        answer = solve(matrix, right)
        blind = blind_vector(matrix, right)
        if slow is None:
            self.same(answer, None)
            self.assertIs(type(blind), tuple)
            self.assertEqual(len(blind), len(matrix))
            z = [fraction(entry) for entry in blind]
            self.same(blind, tuple(pair_of(entry) for entry in z))
            self.assertEqual([sum(a * b for a, b in zip(z, column)) for column in zip(*matrix)], [0] * len(matrix[0]))
            self.assertEqual(sum(a * b for a, b in zip(z, right)), 1)
        else:
            self.same(answer, [pair_of(entry) for entry in slow])
            self.same(blind, None)

    def test_all_small_systems(self):
        for entries in product((-1, 0, 2), repeat=6):
            self.check([list(entries[:2]), list(entries[2:4])], list(entries[4:]))

    def test_many_systems(self):
        kinds = set()
        for seed in range(300):
            rows, columns = 1 + seed % 5, 1 + seed // 5 % 6
            matrix, right = grid(seed, rows, columns, -2, 2), numbers(seed + 999, rows, -2, 2)
            if rows > 2:
                matrix[-1] = [a + b for a, b in zip(matrix[0], matrix[1])]
                right[-1] = right[0] + right[1] + (seed % 2)
            self.check(matrix, right)
            kinds.add((solve(matrix, right) is None, rows > columns))
        self.assertEqual(len(kinds), 4)

    def test_ratios_in_the_system(self):
        matrix = [[(1, 2), (1, 3)], [(-1, 4), (5, -7)], [0, (2, 9)]]
        wide = fractions([[entry if isinstance(entry, tuple) else (entry, 1) for entry in row] for row in matrix])
        for right in ([(1, 6), 0, 0], [(5, 6), Fraction(-1, 4) - Fraction(5, 7), (2, 9)], [1, 2, 3]):
            right = [pair_of(number) if isinstance(number, Fraction) else number for number in right]
            plain = [Fraction(*number) if isinstance(number, tuple) else Fraction(number) for number in right]
            slow = slow_solve(wide, plain)
            self.same(solve(matrix, right), None if slow is None else [pair_of(entry) for entry in slow])
            blind = blind_vector(matrix, right)
            if slow is None:
                z = [fraction(entry) for entry in blind]
                self.assertEqual([sum(a * b for a, b in zip(z, column)) for column in zip(*wide)], [0, 0])
                self.assertEqual(sum(a * b for a, b in zip(z, plain)), 1)
            else:
                self.same(blind, None)

    def test_sixteen_rows_of_long_numbers(self):
        matrix = [[10 ** 7 + value for value in row] for row in grid(5, 16, 16, -10 ** 6, 10 ** 6)]
        wanted = numbers(8, 16, -99, 99)
        right = [entry for [entry] in slow_product(matrix, [[value] for value in wanted])]
        self.same(solve(matrix, [int(entry) for entry in right]), [(value, 1) for value in wanted])
        matrix[15] = [a + b for a, b in zip(matrix[3], matrix[4])]
        self.check(matrix, numbers(9, 16))

    def test_errors_in_order(self):
        for call in (solve, blind_vector):
            for value in NO_NUMBER:
                self.refuses(BadNumber(0), call, [[value]], [value, value])
                self.refuses(BadNumber(1), call, [[1], [2]], [1, value])
                self.refuses(BadNumber(2), call, [[1]], [1, 2, value])
            self.refuses(BadShape(), call, [], [None])
            self.refuses(TooMany("rows", 16), call, [[1]] * 17, [None])
            for right in ([], [1], (1, 2, 3)):
                self.refuses(BadShape(), call, [[1], [2]], right)

    def test_arguments_stay(self):
        matrix, right = [[1, 2], [2, 4]], [1, 3]
        solve(matrix, right), blind_vector(matrix, right)
        self.same(matrix, [[1, 2], [2, 4]])
        self.same(right, [1, 3])
