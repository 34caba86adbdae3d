from itertools import product

from crossmeans.errors import BadPlot, NoPlots, TooMany, UnlikePlots
from crossmeans.lattice import (are_comparable, is_finer, is_join_path, is_strictly_finer, join_all, join_path,
                                meet_all)
from crossmeans.partings import Parting
from tests.helpers import ANY_VALUES, BIG, NO_WHOLE, CrossTest, every_parting, lots_as_sets, parting


def slow_finer(first, second):
    return all(any(lot <= other for other in lots_as_sets(second)) for lot in lots_as_sets(first))


def slow_path(first, second, start, goal):
    """The least tuple among the shortest paths, by looking at all tuples of plots."""
    plots = range(first.plots)
    for length in range(1, first.plots + 1):
        for path in product(plots, repeat=length):
            steps = zip(path, path[1:])
            if path[0] == start and path[-1] == goal and all(
                    p != q and (first.names[p] == first.names[q] or second.names[p] == second.names[q])
                    for p, q in steps):
                return path
    return None


class FinerTest(CrossTest):
    def test_all_pairs(self):
        listed = every_parting(4)
        for first in listed:
            for second in listed:
                finer = slow_finer(first, second)
                self.same(is_finer(first, second), finer)
                self.same(is_strictly_finer(first, second), finer and first.names != second.names)
                self.same(are_comparable(first, second), finer or slow_finer(second, first))

    def test_by_hand(self):
        self.same(is_finer(parting("abcc"), parting("aabb")), True)
        self.same(is_finer(parting("aabb"), parting("abcc")), False)
        self.same(is_strictly_finer(first=parting("abab"), second=parting("abab")), False)
        self.same(are_comparable(first=parting("abab"), second=parting("aabb")), False)
        self.same(are_comparable(parting("aaaa"), parting("aabb")), True)

    def test_unlike_counts(self):
        for call in (is_finer, is_strictly_finer, are_comparable):
            self.refuses(UnlikePlots(2, 3), call, parting("ab"), parting("abc"))
            self.refuses(UnlikePlots(3, 1), call, parting("abc"), parting("a"))


class AllTest(CrossTest):
    def test_meets_and_joins_of_lists(self):
        listed = every_parting(3)
        for first, second, third in product(listed, repeat=3):
            self.assertTrue(meet_all([first, second, third]) == first & second & third)
            self.assertTrue(join_all((first, second, third)) == first | second | third)

    def test_meet_is_the_coarsest_finer_one_and_join_the_finest_coarser_one(self):
        listed = every_parting(4)
        chosen = [parting("aabb"), parting("abbc")]
        met, joined = meet_all(chosen), join_all(chosen)
        for made in listed:
            self.same(slow_finer(made, met), all(slow_finer(made, other) for other in chosen))
            self.same(slow_finer(joined, made), all(slow_finer(other, made) for other in chosen))

    def test_one_parting_alone(self):
        self.assertTrue(meet_all([parting("aba")]) == parting("aba"))
        self.assertTrue(join_all([parting("aba")], plots=3) == parting("aba"))

    def test_no_partings(self):
        self.same(meet_all([], plots=3).lots, ((0, 1, 2),))
        self.same(join_all((), plots=3).lots, ((0,), (1,), (2,)))
        for call in (meet_all, join_all):
            self.refuses(NoPlots(), call, [])
            self.refuses(NoPlots(), call, [], plots=None)

    def test_sixteen_and_seventeen(self):
        listed = [parting("ab")] * 16
        for call in (meet_all, join_all):
            self.assertTrue(call(listed) == parting("ab"))
            self.refuses(TooMany("partings", 16), call, listed + [parting("ab")])
            self.refuses(TooMany("partings", 16), call, listed + [parting("abc")], plots=0)

    def test_wrong_plots(self):
        for call in (meet_all, join_all):
            for plots in (0, -BIG):
                self.refuses(NoPlots(), call, [parting("ab")], plots=plots)
                self.refuses(NoPlots(), call, [], plots=plots)
            for plots in (17, BIG):
                self.refuses(TooMany("plots", 16), call, [parting("ab"), parting("abc")], plots=plots)

    def test_unlike_counts(self):
        for call in (meet_all, join_all):
            self.refuses(UnlikePlots(2, 3), call, [parting("ab"), parting("ba"), parting("abc"), parting("a")])
            self.refuses(UnlikePlots(3, 2), call, [parting("abc"), parting("ab")], plots=3)
            self.refuses(UnlikePlots(4, 3), call, [parting("abc"), parting("ab")], plots=4)

    def test_the_list_stays(self):
        listed = [parting("aab"), parting("abb")]
        before = list(listed)
        meet_all(listed), join_all(listed, plots=3)
        self.assertTrue(listed == before)


class PathTest(CrossTest):
    def test_example(self):
        self.same(join_path(Parting([0, 0, 1, 1]), Parting([0, 1, 1, 2]), 0, 3), (0, 1, 2, 3))

    def test_all_paths_of_four_plots(self):
        listed = every_parting(4)
        for first in listed[::2]:
            for second in listed:
                for start, goal in product(range(4), repeat=2):
                    path = join_path(first, second, start, goal)
                    self.same(path, slow_path(first, second, start, goal))
                    if path is not None:
                        self.same(is_join_path(first, second, start, goal, path), True)

    def test_long_path(self):
        first, second = parting("aabbccddeeffgghh"), parting("abbccddeeffgghhi")
        self.same(join_path(first, second, 0, 15), tuple(range(16)))
        self.same(join_path(first=first, second=second, start=12, goal=9), (12, 11, 10, 9))

    def test_least_of_the_shortest(self):
        self.same(join_path(parting("aaab"), parting("abaa"), 1, 3), (1, 0, 3))
        self.same(join_path(parting("aaabb"), parting("abcbc"), 0, 4), (0, 2, 4))

    def test_start_is_goal_and_no_path(self):
        self.same(join_path(parting("abc"), parting("abc"), 2, 2), (2,))
        self.same(join_path(parting("abc"), parting("abb"), 0, 2), None)

    def test_is_join_path(self):
        first, second = parting("aabb"), parting("abbc")
        for path, right in (((0, 1, 2, 3), True), ((0, 1, 0, 1, 2, 3), True), ((0, 1, 2, 3, 2, 3), True),
                            ((0, 2, 3), False), ((0, 1, 3), False), ((0, 0, 1, 2, 3), False), ((1, 2, 3), False),
                            ((0, 1, 2), False), ((0, 1, 2, 3, 3), False), ((), False), ((0,), False), ((3,), False),
                            ([0, 1, 2, 3], False), ((0, 1, 2, 3, 4), False), ((0, 1, 2, -1), False)):
            self.same(is_join_path(first, second, 0, 3, path), right)
        self.same(is_join_path(first, second, start=1, goal=1, path=(1,)), True)
        self.same(is_join_path(first, second, 1, 1, (1, 0, 1)), True)
        self.same(is_join_path(first, second, 1, 1, (1, 1)), False)

    def test_is_join_path_with_values_of_every_kind(self):
        first, second = parting("aabb"), parting("abbc")
        for value in ANY_VALUES:
            self.same(is_join_path(first, second, 0, 3, value), False)
            self.same(is_join_path(first, second, 0, 3, [value]), False)
            if not isinstance(value, int) or isinstance(value, bool):
                self.same(is_join_path(first, second, 0, 3, (0, value, 2, 3)), False)
                self.same(is_join_path(first, second, 0, 3, (value,)), False)
        self.same(is_join_path(first, second, 0, 1, (False, True)), False)
        self.same(is_join_path(first, second, 0, 1, (0, 1) * 100), True)
        self.same(is_join_path(first, second, 0, 1, (0, BIG, 1)), False)

    def test_wrong_plots_come_in_order_and_before_unlike_counts(self):
        calls = (join_path, lambda *args: is_join_path(*args, None))
        for call in calls:
            for value in NO_WHOLE + (-1, 3, BIG):
                self.refuses(BadPlot(value), call, parting("abc"), parting("ab"), value, 9)
                self.refuses(BadPlot(value), call, parting("abc"), parting("abcd"), 2, value)
            self.refuses(UnlikePlots(3, 2), call, parting("abc"), parting("ab"), 2, 2)
            self.refuses(UnlikePlots(2, 3), call, parting("ab"), parting("abc"), 0, 0)
