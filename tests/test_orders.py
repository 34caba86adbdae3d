from itertools import combinations, permutations

from crossmeans.closure import closure, order_members
from crossmeans.errors import BadOrder, BadPaper, NoPlots, RepeatedMember, TooMany, UnlikePlots
from crossmeans.orders import (coarse_first_orders, fit, is_coarse_first, is_fit, is_order_paper, order_fits,
                               order_free, order_paper, sequence_squares)
from crossmeans.partings import Parting
from crossmeans.tables import Table
from tests.helpers import (ANY_VALUES, BIG, NO_WHOLE, CrossTest, dot, every_parting, fraction, mixed_lists, numbers,
                           pair_of, parting, partings_of, slow_closure, slow_finer, slow_marks, slow_nearest,
                           slow_orthogonal)

UNLIKE = [parting("aab"), parting("ab"), parting("a")]
BROKEN = [parting("aab"), parting("abb")]
PAPER = ((0, 1, 2), (0, 2, 1), ((1, 1), (0, 1), (0, 1)), 1)
# None of these is finer than another one, and their joins are far more than 16.
PAIRS = [Parting([0 if plot in (k, k + 1) else plot + 1 for plot in range(16)]) for k in range(15)]
SHORT_PAIRS = [Parting([0 if plot in (k, k + 1) else plot + 1 for plot in range(8)]) for k in range(7)]
# The joins of the first four are 15, and the one-lot parting is not among them.
SIXTEEN = partings_of(["aabcdf", "abbcdf", "abccdf", "abcddf"])
BAD_ORDERS = NO_WHOLE + (0, 1, -1, BIG, (0, 0, 1), (0, 1), (0, 1, 2, 3), (0, 1, 3), (-1, 0, 1), [0, 1, 1], (0, 1, True),
                         (False, 1, 2), [0, 1, "2"], (0, 1, (2, 1)), [[0, 1, 2]], (None, 1, 2), [0, 1, [2]], "012")


def slow_coarse_first(members, order):
    strict = [(members[late], members[early]) for k, early in enumerate(order) for late in order[k + 1:]]
    return not any(high.names != low.names and slow_finer(low, high) for high, low in strict)


def slow_square(members, taken, cells):
    nearest = slow_nearest(slow_marks([members[at] for at in taken]), cells)
    return dot(nearest, nearest)


def slow_step(members, order, at, cells):
    k = order.index(at)
    return slow_square(members, order[:k + 1], cells) - slow_square(members, order[:k], cells)


def mark_lists(plots):
    """The marks of one plot, then of two plots, as lists."""
    lots = [(plot,) for plot in range(plots)] + list(combinations(range(plots), 2))
    return [[int(plot in lot) for plot in range(plots)] for lot in lots]


def slow_paper(partings):
    """The order paper as point 23 determines it, or None."""
    members = [Parting(names) for names in slow_closure(partings, True, False)]
    found = []
    for p, q in combinations(range(len(members)), 2):
        if not slow_orthogonal(members[p], members[q]):
            upper = [k for k, high in enumerate(members)
                     if slow_finer(members[p], high) or slow_finer(members[q], high)]
            found.append((len(upper), p, q, upper))
    if not found:
        return None
    _, p, q, upper = min(found)
    begun = [k for k in upper if k not in (p, q)]
    rest = [k for k in range(len(members)) if k not in upper]
    one, two = (*begun, p, q, *rest), (*begun, q, p, *rest)
    for cells in mark_lists(members[0].plots):
        if slow_step(members, one, p, cells) != slow_step(members, two, p, cells):
            return (one, two, tuple((cell, 1) for cell in cells), p)
    raise AssertionError("there always is one")


class CoarseFirstTest(CrossTest):
    def test_by_hand(self):
        members = partings_of(["aaaa", "aabb", "abab", "abcd"])
        self.same(is_coarse_first(members, [0, 1, 2, 3]), True)
        self.same(is_coarse_first(members, (0, 2, 1, 3)), True)
        self.same(is_coarse_first(members=members, order=(1, 0, 2, 3)), False)
        self.same(is_coarse_first(members, (0, 1, 3, 2)), False)
        self.same(is_coarse_first([parting("abc"), parting("aab")], [1, 0]), True)
        self.same(is_coarse_first([parting("abc"), parting("aab")], [0, 1]), False)
        # Only what is listed counts: these two are not comparable.
        self.same(is_coarse_first(BROKEN, [1, 0]), True)
        self.same(is_coarse_first([parting("a")], (0,)), True)
        self.same(coarse_first_orders(members), [(0, 1, 2, 3), (0, 2, 1, 3)])
        self.same(coarse_first_orders(members=members[::-1]), [(3, 1, 2, 0), (3, 2, 1, 0)])
        self.same(coarse_first_orders([parting("a")]), [(0,)])

    def test_all_orders_of_small_lists(self):
        for at, listed in enumerate(mixed_lists(4, 50, 5)):
            members = order_members(listed)
            members = members[at % len(members):] + members[:at % len(members)]
            orders = list(permutations(range(len(members))))
            right = [order for order in orders if slow_coarse_first(members, order)]
            for order in orders:
                self.same(is_coarse_first(members, order), order in right)
            for limit in (1, 2, 5, 20, 100):
                self.same(coarse_first_orders(members, limit=limit), right[:limit])
            self.same(coarse_first_orders(members), right[:20])

    def test_limits(self):
        whole = list(permutations(range(5)))
        self.same(coarse_first_orders(PAIRS[:5]), whole[:20])
        self.same(coarse_first_orders(PAIRS[:5], limit=1), whole[:1])
        self.same(coarse_first_orders(PAIRS[:5], limit=99), whole[:99])
        self.same(coarse_first_orders(PAIRS[:5], limit=100), whole[:100])
        made = coarse_first_orders(PAIRS, limit=100)
        self.same(len(made), 100)
        self.same(made[0], tuple(range(15)))
        self.same(made[-1], (*range(10), 14, 10, 12, 13, 11))
        for limit in (101, BIG):
            self.refuses(TooMany("orders", 100), coarse_first_orders, PAIRS, limit=limit)

    def test_errors_in_their_order(self):
        for order in BAD_ORDERS:
            self.refuses(BadOrder(), is_coarse_first, UNLIKE, order)
        self.refuses(NoPlots(), is_coarse_first, [], [])
        self.refuses(NoPlots(), coarse_first_orders, [], limit=101)
        self.refuses(TooMany("partings", 16), is_coarse_first, [parting("ab")] * 17, None)
        self.refuses(TooMany("partings", 16), coarse_first_orders, [parting("ab")] * 17, limit=101)
        self.refuses(RepeatedMember(1), is_coarse_first, [parting("ab"), parting("xy"), parting("a")], None)
        self.refuses(RepeatedMember(1), coarse_first_orders, [parting("ab"), parting("xy"), parting("a")], limit=101)
        self.refuses(TooMany("orders", 100), coarse_first_orders, UNLIKE, limit=101)
        for order in permutations(range(3)):
            self.refuses(UnlikePlots(3, 2), is_coarse_first, UNLIKE, order)
        self.refuses(UnlikePlots(3, 2), coarse_first_orders, UNLIKE)

    def test_nothing_is_shared(self):
        members, order = list(BROKEN), [1, 0]
        is_coarse_first(members, order)
        coarse_first_orders(members).clear()
        self.same(coarse_first_orders(members), [(0, 1), (1, 0)])
        self.same((len(members), order), (2, [1, 0]))


class SquaresTest(CrossTest):
    def test_any_order(self):
        for seed, listed in enumerate(mixed_lists(4, 16, 4)):
            table = Table([(number, 1 + seed % 3) for number in numbers(seed, 4, -9, 9)])
            cells = [fraction(cell) for cell in table.cells]
            for order in permutations(range(len(listed))):
                expected = [pair_of(slow_step(listed, order, at, cells)) for at in range(len(listed))]
                self.same(sequence_squares(listed, list(order), table), expected)

    def test_by_hand(self):
        table = Table([1, 0, 0])
        self.same(sequence_squares(BROKEN, [0, 1], table), [(1, 2), (1, 2)])
        self.same(sequence_squares(partings=BROKEN, order=(1, 0), table=table), [(0, 1), (1, 1)])
        self.same(sequence_squares([parting("aaa"), *BROKEN], [0, 2, 1], table), [(1, 3), (0, 1), (2, 3)])

    def test_equal_partings(self):
        table = Table([1, 2, 4])
        self.same(sequence_squares([parting("aab")] * 3, [2, 0, 1], table), [(0, 1), (0, 1), (41, 2)])
        self.same(sequence_squares([parting("aab")] * 16, list(range(16)), table),
                  [(41, 2)] + [(0, 1)] * 15)

    def test_nine_and_ten_plots(self):
        made = sequence_squares([Parting.one(9), parting("aaabbbccc"), parting("abcabcabc"), Parting.single(9)],
                                [0, 1, 2, 3], Table([1, 2, 3, 4, 5, 6, 7, 8, 10]))
        self.same(made, [(2116, 9), (542, 9), (74, 9), (4, 9)])
        self.refuses(TooMany("plots", 9), sequence_squares, [Parting.one(10)], [0], Table([1] * 10))
        self.refuses(TooMany("plots", 9), sequence_squares, [Parting.one(16)], [0], Table([1] * 16))

    def test_errors_in_their_order(self):
        short = Table([1])
        for order in BAD_ORDERS:
            self.refuses(BadOrder(), sequence_squares, UNLIKE, order, short)
        self.refuses(NoPlots(), sequence_squares, [], None, short)
        self.refuses(TooMany("partings", 16), sequence_squares, [Parting.one(10)] * 17, None, short)
        self.refuses(UnlikePlots(3, 2), sequence_squares, UNLIKE, [2, 1, 0], short)
        self.refuses(UnlikePlots(3, 1), sequence_squares, BROKEN, [1, 0], short)
        self.refuses(UnlikePlots(10, 1), sequence_squares, [Parting.one(10)], [0], short)

    def test_nothing_is_shared(self):
        order, table = [1, 0], Table([1, 2, 4])
        made = sequence_squares(BROKEN, order, table)
        kept = list(made)
        made.clear()
        self.same(sequence_squares(BROKEN, order, table), kept)
        self.same(order, [1, 0])


class FitTest(CrossTest):
    def test_fits(self):
        for seed, listed in enumerate(mixed_lists(4, 60, 6)):
            table = Table([(number, 1 + seed % 3) for number in numbers(seed, 4, -9, 9)])
            parts = fit(listed, table)
            self.same(is_fit(listed, table, parts), True)
            self.assertIs(type(parts), tuple)
            self.assertEqual(len(parts), len(listed))
            summed = [sum(fraction(cells[plot]) for cells in parts) for plot in range(4)]
            self.assertEqual(summed, slow_nearest(slow_marks(listed), [fraction(cell) for cell in table.cells]))
            for made, cells in zip(listed, parts):
                self.assertIs(type(cells), tuple)
                for plot, cell in enumerate(cells):
                    self.same(cell, pair_of(fraction(cell)))
                    self.assertEqual(cell, cells[made.names[plot]])

    def test_no_partings(self):
        for listed in ([], ()):
            self.same(fit(listed, Table([1, 2])), ())
            self.same(is_fit(listed, Table([1, 2]), ()), True)
            for value in ANY_VALUES:
                self.same(is_fit(listed, Table([1, 2]), value), value == () and isinstance(value, tuple))

    def test_by_keyword(self):
        parts = fit(partings=[parting("aab")], table=Table([1, 2, 5]))
        self.same(parts, (((3, 2), (3, 2), (5, 1)),))
        self.same(is_fit(partings=[parting("aab")], table=Table([1, 2, 5]), parts=parts), True)

    def test_another_right_fit(self):
        table = Table([1, 2, 4])
        parts = fit(BROKEN, table)
        moved = tuple(tuple(pair_of(fraction(cell) + more) for cell in cells) for cells, more in zip(parts, (5, -5)))
        self.same(is_fit(BROKEN, table, moved), True)
        self.same(is_fit(BROKEN, table, parts[::-1]), False)

    def test_spoilt_parts(self):
        table = Table([1, 2, 4])
        right = (((3, 2), (3, 2), (4, 1)),)
        listed = [parting("aab")]
        self.same(is_fit(listed, table, right), True)
        wrong = (right[0], list(right), [right[0]], (list(right[0]),), right * 2, (), ((),), (right[0][:2],),
                 (right[0] + ((0, 1),),), (((3, 2), (3, 2), 4),), (((3, 2), (3, 2), (8, 2)),),
                 (((3, 2), (3, 2), (-4, -1)),), (((3, 2), (3, 2), [4, 1]),), (((3, 2), (3, 2), (4, 1, 1)),),
                 (((3, 2), (3, 2), (4, True)),), (((3, 2), (3, 2), None),), (((3, 2), (3, 2), "4"),),
                 (((1, 1), (2, 1), (4, 1)),), (((3, 2), (3, 2), (5, 1)),), (((2, 1), (2, 1), (4, 1)),),
                 (((0, 1), (0, 1), (0, 1)),), ((None, None, None),), ("abc",))
        for parts in wrong + ANY_VALUES:
            self.same(is_fit(listed, table, parts), False)
        self.same(is_fit([parting("aaa"), parting("aab")], table, (right[0], ((0, 1),) * 3)), False)
        self.same(is_fit([parting("aab"), parting("aaa")], table, (right[0], ((0, 1),) * 3)), True)
        # A part too few or too many, though it is zero.
        self.same(is_fit(listed, table, (right[0], ((0, 1),) * 3)), False)
        self.same(is_fit([parting("aab"), parting("aaa")], table, right), False)
        # The sum of a lot is right, but not in a later parting.
        self.same(is_fit(BROKEN, table, (right[0], ((0, 1),) * 3)), False)

    def test_true_is_not_one(self):
        self.same(is_fit([parting("aa")], Table([1, 1]), (((1, 1), (1, 1)),)), True)
        self.same(is_fit([parting("aa")], Table([1, 1]), (((True, 1), (True, 1)),)), False)
        self.same(is_fit([parting("aa")], Table([0, 0]), (((0, 1), (0, 1)),)), True)
        self.same(is_fit([parting("aa")], Table([0, 0]), (((False, 1), (0, 1)),)), False)
        self.same(is_fit([parting("aa")], Table([0, 0]), (((0, 2), (0, 2)),)), False)

    def test_limits(self):
        table = Table([1] * 10)
        self.refuses(TooMany("plots", 9), fit, [], table)
        self.refuses(TooMany("plots", 9), fit, [Parting.one(10)], table)
        self.same(fit([Parting.one(9)], Table([1] * 9)), (((1, 1),) * 9,))
        self.same(len(fit([Parting.single(9)] * 16, Table([1] * 9))), 16)
        self.same(is_fit([], table, ()), True)
        self.same(is_fit([Parting.one(16)], Table([1] * 16), (((1, 1),) * 16,)), True)

    def test_errors_in_their_order(self):
        short = Table([1])
        for call in (fit, lambda partings, table: is_fit(partings, table, None)):
            self.refuses(TooMany("partings", 16), call, [Parting.one(10)] * 17, short)
            self.refuses(UnlikePlots(3, 2), call, UNLIKE, short)
            self.refuses(UnlikePlots(3, 1), call, BROKEN, short)
            self.refuses(UnlikePlots(10, 1), call, [Parting.one(10)], short)
            self.refuses(UnlikePlots(1, 10), call, [Parting.one(1)], Table([1] * 10))

    def test_arguments_stay(self):
        listed = list(BROKEN)
        fit(listed, Table([1, 2, 3]))
        self.assertEqual(len(listed), 2)


class OrderFreeTest(CrossTest):
    def test_by_the_squares_of_all_orders(self):
        seen = []
        for listed in mixed_lists(4, 24, 3):
            members = closure(listed)
            orders = [order for order in permutations(range(len(members))) if slow_coarse_first(members, order)]
            squares = [[[slow_step(members, order, at, cells) for at in range(len(members))] for order in orders[:6]]
                       for cells in mark_lists(4)]
            free = all(row == rows[0] for rows in squares for row in rows)
            self.same(order_free(listed), free)
            seen.append(free)
        self.assertEqual(set(seen), {True, False})

    def test_small_partings(self):
        for listed in combinations(every_parting(4), 2):
            self.same(order_free(list(listed)), slow_orthogonal(*listed))
        self.same(order_free(partings=(parting("ab"),)), True)
        self.same(order_free([parting("aabb"), parting("abab"), parting("aabc")]), False)

    def test_limits(self):
        self.same(order_free([parting("aaaaabbbbb"), parting("ababababab")]), False)
        self.same(order_free([parting("aaaaaabbbb"), parting("aaabbbccdd")]), True)
        self.same(order_free([Parting([min(plot, k) for plot in range(16)]) for k in range(16)]), True)
        self.refuses(TooMany("members", 16), order_free, PAIRS)

    def test_errors(self):
        for call in (order_free, order_paper, lambda listed: is_order_paper(listed, None),
                     lambda listed: order_fits(listed, None)):
            self.refuses(NoPlots(), call, [])
            self.refuses(TooMany("partings", 16), call, [Parting.one(10)] * 17)
            self.refuses(UnlikePlots(3, 2), call, UNLIKE)
            self.refuses(UnlikePlots(16, 1), call, PAIRS + [parting("a")])


class OrderPaperTest(CrossTest):
    def test_example(self):
        self.same(order_paper([Parting([0, 0, 1]), Parting([0, 1, 1])]), PAPER)

    def test_as_point_23_determines_it(self):
        papers = [(listed, slow_paper(listed)) for listed in mixed_lists(4, 60, 4) + mixed_lists(5, 25, 3)
                  if len(slow_closure(listed, True, False)) <= 9]
        papers += [(listed, slow_paper(listed)) for listed in (
            partings_of(["aabbcc", "abbcca"]), partings_of(["aabbcd", "abbaab", "aaabbb"]),
            partings_of(["aaabbbccc", "abcabcabc", "aabbaabbc"]), partings_of(["aaaabca", "aaaabcc"]),
            partings_of(["abcdcecac", "abcdccdad"]), SIXTEEN)]
        for listed, paper in papers:
            self.same(order_paper(listed), paper)
            if paper:
                self.same(is_order_paper(listed, paper), True)
        self.assertGreater(len({paper for _, paper in papers}), 20)

    def test_marks_of_two_plots(self):
        listed = partings_of(["abcacc", "aabbcc", "abacbc"])
        self.same(order_paper(listed), slow_paper(listed))
        self.same(order_paper(listed)[2], ((1, 1), (1, 1), (0, 1), (0, 1), (0, 1), (0, 1)))

    def test_limits(self):
        self.same(order_paper([parting("aaabbbccc"), parting("abcabcabc")]), None)
        for call in (order_paper, lambda listed: is_order_paper(listed, None),
                     lambda listed: order_fits(listed, None)):
            self.refuses(TooMany("plots", 9), call, [Parting.one(10)])
            self.refuses(TooMany("plots", 9), call, PAIRS)
            self.refuses(TooMany("members", 16), call, SHORT_PAIRS)
            self.refuses(TooMany("members", 16), call, SIXTEEN + [parting("abcdef")])
        self.same(len(slow_closure(SIXTEEN, True, False)), 16)

    def test_arguments_stay(self):
        listed = list(BROKEN)
        order_paper(listed)
        is_order_paper(listed, PAPER)
        order_fits(listed, PAPER)
        self.assertEqual(len(listed), 2)


class IsOrderPaperTest(CrossTest):
    def test_right_papers(self):
        one, two, cells, at = PAPER
        for right in (PAPER, (two, one, cells, at), (one, two, cells, 2), (two, one, cells, 2),
                      (one, two, ((-5, 3), (0, 1), (0, 1)), 1), (one, two, ((7, 1), (3, 2), (0, 1)), 1)):
            self.same(is_order_paper(BROKEN, right), True)
        self.same(is_order_paper(partings=BROKEN, paper=PAPER), True)

    def test_spoilt_papers(self):
        one, two, cells, at = PAPER
        zero = (0, 1)
        wrong = [
            (), (one,), PAPER[:3], PAPER + (0,), list(PAPER), (list(one), two, cells, at), (one, list(two), cells, at),
            (one, two, list(cells), at), (one, one, cells, at), (two, two, cells, at), (one, two, cells, 0),
            (one, two, cells, 3), (one, two, cells, -1), (one, two, cells, True), (one, two, cells, (1, 1)),
            (one, two, cells, "1"), (one, two, cells, None), (one, two, cells, [1]), (one, two, (zero,) * 3, at),
            (one, two, ((1, 1),) * 3, at), (one, two, cells[:2], at), (one, two, cells + (zero,), at),
            (one, two, (), at), (one, two, (1, 0, 0), at), (one, two, ((2, 2), zero, zero), at),
            (one, two, ((-1, -1), zero, zero), at), (one, two, ((True, 1), zero, zero), at),
            (one, two, ([1, 1], zero, zero), at), (one, two, ((1, 1), (0, 2), zero), at), (one, two, "abc", at),
            (one, two, None, at), (one[:2], two, cells, at), (one, two[:2], cells, at), (one + (3,), two, cells, at),
            ((1, 0, 2), two, cells, at), (one, (2, 0, 1), cells, at), ((0, 1, 1), two, cells, at),
            ((False, 1, 2), two, cells, at), (one, (False, 2, 1), cells, at), (one, (0, True, 2), cells, at),
            ((0, True, 2), two, cells, at), (one, (0, 2, [1]), cells, at), (one, ((0,), 2, 1), cells, at),
            (one, "021", cells, at), (one, (0, 2, "1"), cells, at), (one, None, cells, at), (None,) * 4, ((),) * 4]
        for paper in wrong + list(ANY_VALUES):
            self.same(is_order_paper(BROKEN, paper), False)
            self.refuses(BadPaper(), order_fits, BROKEN, paper)

    def test_orthogonal_partings_have_no_paper(self):
        listed = partings_of(["aabb", "abab"])
        for cells in mark_lists(4):
            for at in range(3):
                paper = ((0, 1, 2), (0, 2, 1), tuple((cell, 1) for cell in cells), at)
                self.same(is_order_paper(listed, paper), False)

    def test_all_small_papers(self):
        for listed in (BROKEN, partings_of(["aabc", "abbb"]), partings_of(["aab", "abb", "aba"])):
            members = closure(listed)
            places = range(len(members))
            orders = list(permutations(places)) if len(members) < 5 else coarse_first_orders(members)[:4]
            for one in orders[:3]:
                for two in orders[:4]:
                    for cells in mark_lists(members[0].plots):
                        for at in places:
                            right = (slow_coarse_first(members, one) and slow_coarse_first(members, two)
                                     and slow_step(members, one, at, cells) != slow_step(members, two, at, cells))
                            paper = (one, two, tuple((cell, 1) for cell in cells), at)
                            self.same(is_order_paper(listed, paper), right)


class OrderFitsTest(CrossTest):
    def test_fits(self):
        for listed in mixed_lists(4, 40, 3):
            paper = order_paper(listed)
            if paper is None:
                continue
            members = closure(listed)
            made = order_fits(listed, paper)
            self.assertIs(type(made), tuple)
            self.assertEqual(len(made), 4)
            one, two, cells, at = paper
            taken = [one[:one.index(at)], one[:one.index(at) + 1], two[:two.index(at)], two[:two.index(at) + 1]]
            squares = []
            for places, parts in zip(taken, made):
                self.same(is_fit([members[place] for place in places], Table(cells), parts), True)
                summed = [sum(fraction(part[plot]) for part in parts) for plot in range(4)]
                squares.append(dot(summed, summed))
            self.assertNotEqual(squares[1] - squares[0], squares[3] - squares[2])

    def test_by_hand(self):
        before, behind, other, last = order_fits(partings=BROKEN, paper=PAPER)
        self.same(before, (((1, 3),) * 3,))
        self.assertEqual([len(before), len(behind), len(other), len(last)], [1, 2, 2, 3])

    def test_no_paper(self):
        listed = partings_of(["aabb", "abab"])
        self.refuses(BadPaper(), order_fits, listed, None)
        self.refuses(BadPaper(), order_fits, listed, ((0, 1, 2), (0, 2, 1), ((1, 1),) * 4, 1))

    def test_a_first_step(self):
        # The one-lot parting is the first step of each order, so nothing but it can stand at the beginning.
        self.refuses(BadPaper(), order_fits, BROKEN, (PAPER[0], PAPER[1], PAPER[2], 0))
