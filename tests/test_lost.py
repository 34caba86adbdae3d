from itertools import combinations

from crossmeans.errors import BadPlot, NoMend, NoPlots, TooMany, UnlikePlots
from crossmeans.lost import all_least_losses, leave_out, leave_out_cells, least_loss, mends
from crossmeans.partings import Parting
from crossmeans.tables import Table
from tests.helpers import (BIG, NO_WHOLE, CrossTest, every_parting, mixed_lists, parting, partings_of, slow_orthogonal)

BROKEN = partings_of(["aab", "abb"])


def slow_rest(made, lost):
    return Parting([name for plot, name in enumerate(made.names) if plot not in lost])


def slow_mends(partings, lost):
    rest = [slow_rest(made, lost) for made in partings]
    return all(slow_orthogonal(one, other) for one, other in combinations(rest, 2))


def slow_losses(partings, keep):
    plots = range(partings[0].plots)
    right = [lost for count in range(len(plots)) for lost in combinations(plots, count)
             if not set(lost) & set(keep) and slow_mends(partings, lost)]
    return [lost for lost in right if len(lost) == len(right[0])]


class LeaveOutTest(CrossTest):
    def test_leave_out(self):
        for made in every_parting(4):
            table = Table([1, 4, 9, (1, 3)])
            for count in range(4):
                for lost in combinations(range(4), count):
                    self.assertTrue(leave_out(made, list(lost)) == slow_rest(made, lost))
                    rest = tuple(cell for plot, cell in enumerate(table.cells) if plot not in lost)
                    self.same(leave_out_cells(table, lost).cells, rest)
        self.same(leave_out(parting=parting("abab"), lost=(0,)).names, (0, 1, 0))
        self.same(leave_out_cells(table=Table([1, 2, 3]), lost=[2, 0, 2]).cells, ((2, 1),))
        self.same(leave_out(parting("aab"), []).names, (0, 0, 2))

    def test_no_plot_remains(self):
        self.refuses(NoPlots(), leave_out, parting("aab"), [0, 1, 2])
        self.refuses(NoPlots(), leave_out_cells, Table([1, 2]), (1, 0, 1))
        self.refuses(NoPlots(), leave_out, parting("a"), [0] * 50)
        self.refuses(NoPlots(), mends, BROKEN, [2, 1, 0])

    def test_wrong_plots(self):
        calls = (lambda lost: leave_out(parting("aab"), lost), lambda lost: leave_out_cells(Table([1, 2, 3]), lost),
                 lambda lost: mends(BROKEN, lost), lambda keep: all_least_losses(BROKEN, keep=keep),
                 lambda keep: least_loss(BROKEN, keep=keep))
        for value in NO_WHOLE + (-1, 3, BIG, -BIG):
            for call in calls:
                self.refuses(BadPlot(value), call, [value, None])
                self.refuses(BadPlot(value), call, (0, 1, 2, 2, value))

    def test_nothing_is_shared(self):
        lost = [1]
        made = leave_out(parting("abc"), lost), leave_out_cells(Table([1, 2, 3]), lost)
        mends(BROKEN, lost)
        self.same(lost, [1])
        lost.append(0)
        self.same(made[0].names, (0, 1))
        self.same(made[1].cells, ((1, 1), (3, 1)))


class MendTest(CrossTest):
    def test_mends(self):
        for listed in mixed_lists(5, 60, 4):
            for count in range(5):
                for lost in combinations(range(5), count):
                    self.same(mends(listed, lost), slow_mends(listed, lost))
        self.same(mends(partings=BROKEN, lost=[1, 1, 1]), True)
        self.same(mends(BROKEN, ()), False)
        # Joins are made anew: without plot 1 the lots of the first parting hang together no more.
        self.same(mends(partings_of(["aabb", "abba"]), [3]), False)
        self.same(mends(partings_of(["aabb", "abba"]), [0, 2]), True)

    def test_sixteen_plots(self):
        first, second = parting("aaaabbbbccccdddd"), parting("abcdabcdabcdabce")
        self.same(mends([first, second], []), False)
        self.same(mends([first, second], [15]), False)
        self.same(mends([first, second], [12, 13, 14, 15]), True)
        self.same(mends([first] * 16, [3]), True)

    def test_errors_in_their_order(self):
        self.refuses(NoPlots(), mends, [], [None])
        self.refuses(TooMany("partings", 16), mends, [parting("ab")] * 17, [None])
        self.refuses(BadPlot(2), mends, [parting("ab"), parting("abc")], [2])
        self.refuses(UnlikePlots(2, 3), mends, [parting("ab"), parting("abc")], [0, 1])
        self.refuses(UnlikePlots(3, 2), mends, [parting("abc"), parting("ab"), parting("a")], [0])


class LeastLossTest(CrossTest):
    def check(self, listed, keep):
        expected = slow_losses(listed, keep) if listed[0].plots > len(set(keep)) or slow_mends(listed, ()) else []
        if expected:
            self.same(all_least_losses(listed, keep=keep), expected)
            self.same(least_loss(listed, keep=keep), expected[0])
        else:
            self.refuses(NoMend(), all_least_losses, listed, keep=keep)
            self.refuses(NoMend(), least_loss, listed, keep=keep)
        return expected

    def test_example(self):
        self.same(all_least_losses([Parting([0, 0, 1]), Parting([0, 1, 1])]), [(0,), (1,), (2,)])
        self.same(least_loss(partings=BROKEN), (0,))
        self.same(all_least_losses(partings=BROKEN, keep=[0, 2, 0]), [(1,)])

    def test_all_sets(self):
        sizes = set()
        for listed in mixed_lists(5, 50, 4):
            for keep in ((), (0,), [1, 3], (4, 2, 0), [0, 1, 2, 3], (0, 1, 2, 3, 4)):
                sizes.add(tuple(len(found) for found in self.check(listed, keep)[:1]))
        self.assertEqual(sizes, {(), (0,), (1,), (2,), (3,)})

    def test_with_keep_more_must_be_lost(self):
        listed = partings_of(["aabbc", "abbcc"])
        for count in range(6):
            for keep in combinations(range(5), count):
                self.check(listed, keep)

    def test_orthogonal_partings(self):
        for listed in (partings_of(["aabb", "abab"]), [parting("abcd")], [parting("aab")] * 4):
            plots = list(range(listed[0].plots))
            for keep in ((), [0], plots, plots * 3):
                self.same(all_least_losses(listed, keep=keep), [()])
                self.same(least_loss(listed, keep=keep), ())

    def test_no_mend(self):
        for keep in ([0, 1, 2], (2, 1, 0, 1)):
            self.refuses(NoMend(), all_least_losses, BROKEN, keep=keep)
        listed = partings_of(["aabc", "abbc"])
        self.refuses(NoMend(), least_loss, listed, keep=[0, 1, 2])
        self.same(least_loss(listed, keep=[0, 1, 3]), (2,))

    def test_limits(self):
        seven = partings_of(["aabbccd", "abbccdd", "abcabca", "aaabbbc"])
        self.same(all_least_losses(seven), slow_losses(seven, ()))
        for listed in (partings_of(["aabbccdd", "abbccdda"]), [Parting.one(8)], [Parting.one(16)] * 16):
            self.refuses(TooMany("plots", 7), all_least_losses, listed)
            self.refuses(TooMany("plots", 7), least_loss, listed, keep=[0])
        for listed in (BROKEN * 2 + [parting("aaa")], [parting("a")] * 5, [parting("ab")] * 16):
            self.refuses(TooMany("partings", 4), all_least_losses, listed)
            self.refuses(TooMany("partings", 4), least_loss, listed, keep=[0])
        self.same(all_least_losses([parting("a")] * 4), [()])

    def test_errors_in_their_order(self):
        for call in (all_least_losses, least_loss):
            self.refuses(NoPlots(), call, [], keep=[None])
            self.refuses(TooMany("partings", 16), call, [Parting.one(8)] * 17, keep=[None])
            self.refuses(BadPlot(8), call, [Parting.one(8), parting("a")], keep=[0, 8])
            self.refuses(UnlikePlots(8, 1), call, [Parting.one(8), parting("a")] * 3, keep=[0, 7])
            self.refuses(TooMany("plots", 7), call, [Parting.one(8)] * 5)
            self.refuses(TooMany("partings", 4), call, BROKEN * 3, keep=[0, 1, 2])

    def test_nothing_is_shared(self):
        keep, listed = [1], list(BROKEN)
        all_least_losses(listed, keep=keep).clear()
        self.same(keep, [1])
        self.assertEqual(len(listed), 2)
        self.same(all_least_losses(listed, keep=keep), [(0,), (2,)])
