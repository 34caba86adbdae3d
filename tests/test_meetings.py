from crossmeans.errors import BadPaper, NoPlots, TooMany, UnlikePlots
from crossmeans.matrices import matrix_product, projector
from crossmeans.meetings import (all_orthogonal, are_orthogonal, break_table, count_table, first_break, is_break,
                                 meeting, pair_breaks)
from crossmeans.partings import Parting
from crossmeans.tables import Table, means, orders_agree
from tests.helpers import ANY_VALUES, CrossTest, every_parting, parting, slow_join


def slow_meeting(first, second):
    """The rows of the meeting, from the names alone."""
    joined = slow_join(first, second)
    rows = []
    for a in sorted(set(first.names)):
        for b in sorted(set(second.names)):
            if joined[a] == joined[b]:
                common = sum(pair == (a, b) for pair in zip(first.names, second.names))
                rows.append((a, b, joined[a], common, first.names.count(a), second.names.count(b),
                             joined.count(joined[a])))
    return rows


def slow_breaks(first, second):
    return [row for row in slow_meeting(first, second) if row[3] * row[6] != row[4] * row[5]]


class MeetingTest(CrossTest):
    def test_example(self):
        self.same(first_break(Parting([0, 0, 1]), Parting([0, 1, 1])), (0, 0, 0, 1, 2, 1, 3))

    def test_rows_by_hand(self):
        self.same(meeting(parting("aabbc"), parting("ababc")), [
            (0, 0, 0, 1, 2, 2, 4), (0, 1, 0, 1, 2, 2, 4), (2, 0, 0, 1, 2, 2, 4), (2, 1, 0, 1, 2, 2, 4),
            (4, 4, 4, 1, 1, 1, 1)])
        self.same(meeting(first=parting("aab"), second=parting("abb")), [
            (0, 0, 0, 1, 2, 1, 3), (0, 1, 0, 1, 2, 2, 3), (2, 0, 0, 0, 1, 1, 3), (2, 1, 0, 1, 1, 2, 3)])

    def test_all_pairs(self):
        listed = every_parting(4)
        for first in listed:
            for second in listed:
                rows, breaks = slow_meeting(first, second), slow_breaks(first, second)
                self.same(meeting(first, second), rows)
                self.same(first_break(first, second), breaks[0] if breaks else None)
                self.same(are_orthogonal(first, second), not breaks)
                for row in rows:
                    self.same(is_break(first, second, row), row in breaks)
                left, right = projector(first), projector(second)
                alike = matrix_product(left, right) == matrix_product(right, left)
                self.assertEqual(alike, not breaks)
                if alike:
                    self.assertTrue(matrix_product(left, right) == projector(first | second))

    def test_comparable_partings_are_orthogonal(self):
        self.same(are_orthogonal(parting("aabbc"), parting("aaaac")), True)
        self.same(are_orthogonal(parting("aab"), parting("abc")), True)

    def test_sixteen_plots(self):
        first, second = parting("aaaabbbbccccdddd"), parting("abcdabcdabcdabcd")
        self.assertEqual(len(meeting(first, second)), 16)
        self.same(are_orthogonal(first, second), True)
        self.same(are_orthogonal(first, parting("abcdabcdabcdabce")), False)

    def test_unlike_counts(self):
        for call in (meeting, first_break, are_orthogonal, count_table):
            self.refuses(UnlikePlots(2, 3), call, parting("ab"), parting("abc"))


class PaperTest(CrossTest):
    def test_break_tables(self):
        listed = every_parting(4)
        for first in listed:
            for second in listed:
                for row in slow_breaks(first, second):
                    table = break_table(first, second, row)
                    lot = first.lot_of(row[0])
                    self.assertTrue(table == Table.mark(4, lot))
                    self.same(orders_agree(first, second, table), False)
                    self.assertFalse(means(second, means(first, table)) == means(first, means(second, table)))

    def test_rows_that_are_no_breaks(self):
        first, second = parting("aab"), parting("abb")
        right = (2, 0, 0, 0, 1, 1, 3)
        self.same(is_break(first, second, right), True)
        self.same(is_break(first=first, second=second, row=right), True)
        wrong = [list(right), right[:6], right + (0,), (2, 0, 0, 0, 1, 1, 4), (0, 2, 0, 0, 1, 1, 3), (right,), [right],
                 (2, False, 0, 0, 1, 1, 3), (2, 0, 0, 0, True, 1, 3), (2, 0, 0, 0, 1, True, 3), (1,) * 7, (None,) * 7,
                 ("2", 0, 0, 0, 1, 1, 3), ((2, 1), 0, 0, 0, 1, 1, 3), ([2], 0, 0, 0, 1, 1, 3)]
        for row in wrong + list(ANY_VALUES):
            self.same(is_break(first, second, row), False)
            self.refuses(BadPaper(), break_table, first, second, row)
        for place in range(7):
            for value in ANY_VALUES:
                if repr(value) != repr(right[place]):
                    row = right[:place] + (value,) + right[place + 1:]
                    self.same(is_break(first, second, row), False)

    def test_a_row_of_the_meeting_that_does_not_break(self):
        for row in meeting(parting("abab"), parting("aabb")):
            self.same(is_break(parting("abab"), parting("aabb"), row), False)
            self.refuses(BadPaper(), break_table, parting("abab"), parting("aabb"), row)

    def test_unlike_counts_come_first(self):
        for row in ANY_VALUES + ((2, 0, 0, 0, 1, 1, 3),):
            for call in (is_break, break_table):
                self.refuses(UnlikePlots(3, 2), call, parting("aab"), parting("ab"), row)

    def test_keywords(self):
        made = break_table(first=parting("aab"), second=parting("abb"), row=(2, 0, 0, 0, 1, 1, 3))
        self.same(made.cells, ((0, 1), (0, 1), (1, 1)))


class ListTest(CrossTest):
    def test_count_table(self):
        self.same(count_table(parting("aabbc"), parting("abbcc")), [[1, 1, 0], [0, 1, 1], [0, 0, 1]])
        self.same(count_table(parting("aab"), parting("aab")), [[2, 0], [0, 1]])
        result = count_table(first=parting("abb"), second=parting("aaa"))
        self.same(result, [[1], [2]])
        result[0].append(7)
        self.same(result, [[1, 7], [2]])
        self.assertIsNot(result[0], result[1])

    def test_pair_breaks(self):
        listed = every_parting(3)
        expected = [(i, j, slow_breaks(listed[i], listed[j])[0]) for i in range(5) for j in range(i + 1, 5)
                    if slow_breaks(listed[i], listed[j])]
        self.assertTrue(expected)
        self.same(pair_breaks(listed), expected)
        self.same(pair_breaks(partings=tuple(listed)), expected)
        self.same(pair_breaks([parting("aab"), parting("aaa"), parting("aab"), parting("abb")]),
                  [(0, 3, (0, 0, 0, 1, 2, 1, 3)), (2, 3, (0, 0, 0, 1, 2, 1, 3))])

    def test_all_orthogonal(self):
        self.same(all_orthogonal([parting("aab")]), True)
        self.same(pair_breaks([parting("aab")]), [])
        self.same(all_orthogonal([parting("abab"), parting("aabb"), parting("abba")]), True)
        self.same(all_orthogonal(partings=[parting("abab"), parting("aabb"), parting("abbb")]), False)
        self.same(all_orthogonal([parting("aab")] * 16), True)

    def test_errors(self):
        for call in (pair_breaks, all_orthogonal):
            self.refuses(NoPlots(), call, [])
            self.refuses(TooMany("partings", 16), call, [parting("ab")] * 16 + [parting("abc")])
            self.refuses(UnlikePlots(3, 2), call, [parting("aab"), parting("abb"), parting("ab"), parting("a")])
