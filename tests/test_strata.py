from fractions import Fraction
from itertools import combinations, product

from crossmeans.closure import closure
from crossmeans.errors import BadIndex, NoPlots, NotOrthogonal, RepeatedMember, TooMany, UnlikePlots
from crossmeans.matrices import apply_matrix, is_projector, trace
from crossmeans.partings import Parting
from crossmeans.strata import Strata, is_split
from crossmeans.tables import Table, table_sum
from tests.helpers import (BIG, NO_WHOLE, CrossTest, dot, every_parting, fraction, fractions, mixed_lists, names_of,
                           numbers, pair_of, parting, partings_of, slow_closure, slow_orthogonal, slow_pieces)

# Joins of these make 15 members, and neither trivial parting is among them.
PAIRS = [parting(text) for text in ("aabcdefghi", "abccdefghi", "abcdeefghi", "abcdefgghi")]
ORTHOGONAL = [partings_of(texts) for texts in (
    ["aabb"], ["abcd", "aabb", "aabb"], ["aabb", "abab"], ["aabb", "abab", "abba"], ["aaab"], ["a"], ["a", "a"],
    ["aaabbb", "abcabc"], ["aabbcc", "aaaabb", "abcdef"], ["abcd"], ["aaaa"], ["aabbcd"], ["aabc", "aaab"],
    ["abcabcabc", "aaabbbccc", "abcbcacab"], ["aabbaabb", "abababab", "aaaabbbb"])]


def pairs(cells):
    return tuple(pair_of(cell) for cell in cells)


def mixed_table(seed, plots):
    return Table([(number, 1 + seed % 7) for number in numbers(seed, plots, -9, 9)])


def orthogonal_lists():
    """All pairs of orthogonal partings of 4 plots, and some longer lists."""
    listed = [[one, other] for one, other in combinations(every_parting(4), 2) if slow_orthogonal(one, other)]
    return ORTHOGONAL + listed[::4]


class MembersTest(CrossTest):
    def test_example(self):
        self.same(Strata([Parting([0, 0, 1, 1])]).squares(Table([1, 2, 3, 6])), [(36, 1), (9, 1), (5, 1)])
        self.refuses(NotOrthogonal(0, 1), Strata, [Parting([0, 0, 1]), Parting([0, 1, 1])])

    def test_members_for_each_top_and_bottom(self):
        for listed in orthogonal_lists():
            for top, bottom in product((False, True), repeat=2):
                made = Strata(listed, top=top, bottom=bottom)
                expected = slow_closure(listed, top, bottom)
                self.assertIs(type(made.members), tuple)
                self.same(tuple(names_of(made.members)), tuple(expected))
                self.same(made.many, len(expected))
                self.same(made.plots, listed[0].plots)
                self.assertIs(type(made.dimensions), tuple)
                self.assertEqual(len(made.dimensions), len(expected))

    def test_both_are_added_by_default(self):
        self.same(names_of(Strata(partings=[parting("aabb")]).members), [(0, 0, 0, 0), (0, 0, 2, 2), (0, 1, 2, 3)])
        self.same(names_of(Strata([parting("aabb")], bottom=False).members), [(0, 0, 0, 0), (0, 0, 2, 2)])
        self.same(names_of(Strata([parting("aabb")], top=False).members), [(0, 0, 2, 2), (0, 1, 2, 3)])

    def test_equal_entries_make_one_member(self):
        self.same(Strata([parting("aabb"), parting("xxyy"), parting("aaaa")] * 5).many, 3)
        self.same(Strata([parting("a")] * 16).many, 1)

    def test_dimensions(self):
        self.same(Strata([parting("aabb")]).dimensions, (1, 1, 2))
        self.same(Strata(partings_of(["aabb", "abab", "abba"])).dimensions, (1, 1, 1, 1, 0))
        self.same(Strata(partings_of(["aaabbb", "abcabc"])).dimensions, (1, 1, 2, 2))
        self.same(Strata([parting("abcd")], top=False).dimensions, (4,))
        for listed in orthogonal_lists():
            for top, bottom in product((False, True), repeat=2):
                made = Strata(listed, top=top, bottom=bottom)
                for at, size in enumerate(made.dimensions):
                    self.same(trace(made.stratum_matrix(at)), (size, 1))

    def test_place(self):
        made = Strata(partings_of(["aabb", "abab"]))
        self.same([made.place(parting(text)) for text in ("aaaa", "aabb", "abab", "abcd", "abba", "xyxy")],
                  [0, 1, 2, 3, None, 2])
        self.same(made.place(parting=made.members[3]), 3)
        self.same(Strata([parting("aabb")], bottom=False).place(parting("abcd")), None)
        self.refuses(UnlikePlots(4, 3), made.place, parting("aab"))

    def test_errors_in_their_order(self):
        self.refuses(NoPlots(), Strata, [])
        self.refuses(TooMany("partings", 16), Strata, partings_of(["aab", "abb"]) + [parting("ab")] * 15)
        self.refuses(UnlikePlots(3, 2), Strata, [parting("aab"), parting("abb"), parting("ab"), parting("a")])
        self.assertEqual(Strata(PAIRS, bottom=False).many, 16)
        self.assertEqual(Strata(PAIRS, top=False).many, 16)
        self.refuses(TooMany("members", 16), Strata, PAIRS)
        chain = [Parting([min(plot, k) for plot in range(16)]) for k in range(16)]
        self.assertEqual(Strata(chain).dimensions, (1,) * 16)
        # Too many members are reported before the first pair that is not orthogonal.
        broken = [Parting([0 if plot in (k, k + 1) else plot + 1 for plot in range(8)]) for k in range(7)]
        self.refuses(TooMany("members", 16), Strata, broken)
        self.refuses(UnlikePlots(8, 2), Strata, broken + [parting("ab")])

    def test_the_first_pair_that_is_not_orthogonal(self):
        for listed in mixed_lists(4, 60, 5):
            pairs_of = [(i, j) for i, j in combinations(range(len(listed)), 2)
                        if not slow_orthogonal(listed[i], listed[j])]
            if pairs_of and len(slow_closure(listed, True, True)) <= 16:
                self.refuses(NotOrthogonal(*pairs_of[0]), Strata, listed)
        self.refuses(NotOrthogonal(0, 2), Strata, partings_of(["aab", "aab", "abb", "aba"]))
        self.refuses(NotOrthogonal(1, 2), Strata, partings_of(["aaa", "aab", "abb"]), top=False)


class PiecesTest(CrossTest):
    def test_pieces_and_squares(self):
        for seed, listed in enumerate(orthogonal_lists()):
            table = mixed_table(seed, listed[0].plots)
            for top, bottom in product((False, True), repeat=2):
                made = Strata(listed, top=top, bottom=bottom)
                expected = slow_pieces(made.members, [fraction(cell) for cell in table.cells])
                found = made.pieces(table)
                self.assertIs(type(found), list)
                self.same([part.cells for part in found], [pairs(cells) for cells in expected])
                self.same([made.piece(at, table).cells for at in range(made.many)], [part.cells for part in found])
                self.same(made.squares(table), [pair_of(dot(cells, cells)) for cells in expected])
                for one, other in combinations(found, 2):
                    self.assertEqual(one.dot(other), (0, 1))
                if bottom:
                    self.assertTrue(table_sum(made.plots, *found) == table)

    def test_by_keyword(self):
        made = Strata([parting("ab")])
        self.same(made.piece(at=1, table=Table([1, 2])).cells, ((-1, 2), (1, 2)))
        self.same([part.cells for part in made.pieces(table=Table([1, 2]))],
                  [((3, 2), (3, 2)), ((-1, 2), (1, 2))])
        self.same(made.squares(table=Table([1, 2])), [(9, 2), (1, 2)])

    def test_a_stratum_of_dimension_zero(self):
        made = Strata(partings_of(["aabb", "abab", "abba"]))
        self.same(made.piece(4, Table([1, 2, 4, 8])).is_zero(), True)
        self.same(made.keeps_whole(4, Table.zeros(4)), True)

    def test_keeps_whole(self):
        for seed, listed in enumerate(ORTHOGONAL):
            made = Strata(listed)
            table = mixed_table(seed + 3, made.plots)
            for at, other in product(range(made.many), repeat=2):
                part = made.piece(other, table)
                self.same(made.keeps_whole(at, part), at == other or part.is_zero())
                self.same(made.keeps_whole(at, Table.zeros(made.plots)), True)
            self.same(made.keeps_whole(at=0, table=Table([1] * made.plots)), True)

    def test_matrices(self):
        for seed, listed in enumerate(ORTHOGONAL):
            made = Strata(listed)
            table = mixed_table(seed, made.plots)
            matrices = [made.stratum_matrix(at=at) for at in range(made.many)]
            for at, matrix in enumerate(matrices):
                self.assertTrue(is_projector(matrix))
                self.same(apply_matrix(matrix, table).cells, made.piece(at, table).cells)
            plots = range(made.plots)
            spectral = [[Fraction(0) for _ in plots] for _ in plots]
            for matrix, size, square in zip(map(fractions, matrices), made.dimensions, made.squares(table)):
                for p, q in product(plots, repeat=2):
                    spectral[p][q] += matrix[p][q] * fraction(square) / size if size else 0
            self.same(made.spectral_matrix(table=table), [[pair_of(entry) for entry in row] for row in spectral])

    def test_spectral_matrix_by_hand(self):
        self.same(Strata([parting("ab")]).spectral_matrix(Table([1, 2])), [[(5, 2), (2, 1)], [(2, 1), (5, 2)]])
        self.same(Strata([parting("aa")], bottom=False).spectral_matrix(Table([1, 2])), [[(9, 4)] * 2] * 2)
        # The stratum of dimension 0 is left out.
        made = Strata(partings_of(["aabb", "abab", "abba"]))
        self.same(made.spectral_matrix(Table([1, 0, 0, 0])), [
            [(1, 4) if p == q else (0, 1) for q in range(4)] for p in range(4)])

    def test_sixteen_members(self):
        chain = [Parting([min(plot, k) for plot in range(16)]) for k in range(16)]
        made = Strata(chain)
        table = Table([BIG + plot for plot in range(16)])
        self.assertTrue(table_sum(16, *made.pieces(table)) == table)
        self.same(made.squares(Table.mark(16, [15]))[15], (1, 2))

    def test_wrong_arguments(self):
        made = Strata([parting("aabb")])
        table, short = Table([1, 2, 3, 4]), Table([1, 2])
        for value in NO_WHOLE + (-1, 3, BIG):
            self.refuses(BadIndex(value), made.piece, value, short)
            self.refuses(BadIndex(value), made.keeps_whole, value, short)
            self.refuses(BadIndex(value), made.stratum_matrix, value)
        for call in (made.pieces, made.squares, made.spectral_matrix):
            self.refuses(UnlikePlots(4, 2), call, short)
        self.refuses(UnlikePlots(4, 2), made.piece, 0, short)
        self.refuses(UnlikePlots(4, 2), made.keeps_whole, 2, short)
        self.same(made.piece(2, table).cells, ((-1, 2), (1, 2), (-1, 2), (1, 2)))

    def test_nothing_is_shared(self):
        listed = [parting("aabb")]
        made = Strata(listed)
        listed.append(parting("abbb"))
        self.same(made.many, 3)
        table = Table([1, 2, 3, 4])
        made.pieces(table).clear()
        made.squares(table).clear()
        self.assertEqual((len(made.pieces(table)), len(made.squares(table))), (3, 3))
        for call in (lambda: made.stratum_matrix(0), lambda: made.spectral_matrix(table)):
            matrix = call()
            kept = [list(row) for row in matrix]
            self.assertEqual(len({id(row) for row in matrix}), 4)
            matrix[0][0] = None
            matrix[1].clear()
            self.same(call(), kept)
        self.same(len(listed), 2)


class SplitTest(CrossTest):
    def test_right_pieces(self):
        for seed, listed in enumerate(orthogonal_lists()):
            made = Strata(listed)
            table = mixed_table(seed, made.plots)
            self.same(is_split(list(made.members), table, made.pieces(table)), True)
            self.same(is_split(members=made.members[::-1], table=table, pieces=made.pieces(table)[::-1]), True)

    def test_spoilt_pieces(self):
        members = closure(partings_of(["aabb", "abab"]), bottom=True)
        table = Table([1, 2, 4, 9])
        right = Strata(members).pieces(table)
        for at in range(4):
            for cells in ([1, 0, 0, 0], [1, 1, 1, 1], [1, 1, -1, -1], [0, 0, (1, 9), 0]):
                spoilt = list(right)
                spoilt[at] = spoilt[at] + Table(cells)
                self.same(is_split(members, table, spoilt), False)
                # With another table the sum is right, but a piece is not what it must be.
                other = table + Table(cells)
                self.same(is_split(members, other, spoilt), spoilt[at] == Strata(members).pieces(other)[at])
        self.same(is_split(members, table, right[::-1]), False)
        self.same(is_split(members, table + table, right), False)

    def test_a_piece_in_a_wrong_place(self):
        members = partings_of(["aaaa", "aabb", "abcd"])
        table = Table([1, 1, 3, 3])
        two, rest, zero = Table([2] * 4), Table([-1, -1, 1, 1]), Table.zeros(4)
        self.same(is_split(members, table, [two, rest, zero]), True)
        self.same(is_split(members, table, [zero, table, zero]), False)
        self.same(is_split(members, table, [two, zero, rest]), False)
        self.same(is_split(members, table, [rest, two, zero]), False)

    def test_a_wrong_length(self):
        members = partings_of(["aa", "ab"])
        table = Table([1, 3])
        right = [Table([2, 2]), Table([-1, 1])]
        self.same(is_split(members, table, right), True)
        self.same(is_split(members, table, tuple(right)), True)
        for pieces in ([], right[:1], right + [Table.zeros(2)], [Table.zeros(2)] * 100):
            self.same(is_split(members, table, pieces), False)
        self.same(is_split(members, Table.zeros(2), []), False)

    def test_members_that_are_not_closed(self):
        first, second = Table([1, 1, 5]), Table([0, 7, 7])
        self.same(is_split(partings_of(["aab", "abb"]), first + second, [first, second]), True)
        self.same(is_split(partings_of(["abb", "aab"]), first + second, [first, second]), False)
        self.same(is_split(partings_of(["aab", "abb", "aaa"]), first + second,
                           [first, second, Table.zeros(3)]), False)
        # Strictly coarser members alone count, and only listed ones.
        self.same(is_split([parting("abc")], first, [first]), True)
        self.same(is_split([parting("aab")], second, [second]), False)
        self.same(is_split([parting("aab")], first + second, [first]), False)

    def test_errors_in_their_order(self):
        two, three = parting("ab"), parting("abc")
        table = Table([1, 2])
        self.refuses(NoPlots(), is_split, [], table, [])
        self.refuses(TooMany("partings", 16), is_split, [two] * 17, table, [])
        self.refuses(RepeatedMember(2), is_split, [two, three, two], Table([1]), [])
        self.refuses(UnlikePlots(2, 3), is_split, [two, three], Table([1]), [])
        self.refuses(UnlikePlots(2, 1), is_split, [two], Table([1]), [Table([1, 2, 3])])
        self.refuses(UnlikePlots(2, 3), is_split, [two], table, [table, Table([1, 2, 3])])
        self.refuses(UnlikePlots(2, 3), is_split, [two], table, [table] * 99 + [Table([1, 2, 3])])
