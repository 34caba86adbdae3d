from itertools import permutations, product

from crossmeans.closure import order_members
from crossmeans.errors import BadIndex, BadNumber, BadShape, NoPlots, RepeatedMember, TooMany, UnlikePlots
from crossmeans.moebius import dimensions, interval, moebius, sum_up, turn_back, zeta
from crossmeans.partings import Parting
from tests.helpers import (BIG, NO_NUMBER, NO_WHOLE, CrossTest, fraction, mixed_lists, numbers, pair_of, parting,
                           partings_of, slow_finer, slow_orthogonal)

SQUARE = ["aaaa", "aabb", "abab", "abcd"]
UNLIKE = [parting("aab"), parting("ab"), parting("a")]
MEMBER_LISTS = [partings_of(texts) for texts in (
    SQUARE, SQUARE[::-1], ["abab", "abcd", "aaaa", "aabb"], ["a"], ["aab", "abb"], ["aab", "abb", "aba", "abc"],
    ["abc", "aab", "aaa", "abb", "aba"], ["aabb", "aaaa", "aabc", "abcd"])]


def some_lists():
    """Lists of unequal partings in mixed orders."""
    mixed = [order_members(listed) for listed in mixed_lists(4, 40, 9)]
    return MEMBER_LISTS + [listed[at % len(listed):] + listed[:at % len(listed)] for at, listed in enumerate(mixed)]


class NumbersTest(CrossTest):
    def test_example(self):
        self.same(dimensions([Parting.one(4), Parting([0, 0, 1, 1]), Parting([0, 1, 0, 1]), Parting.single(4)]),
                  [1, 1, 1, 1])

    def test_by_hand(self):
        self.same(zeta(partings_of(SQUARE)), [[1, 0, 0, 0], [1, 1, 0, 0], [1, 0, 1, 0], [1, 1, 1, 1]])
        self.same(moebius(partings_of(SQUARE)), [[1, 0, 0, 0], [-1, 1, 0, 0], [-1, 0, 1, 0], [1, -1, -1, 1]])
        self.same(moebius(partings_of(["abab", "abcd", "aaaa"])), [[1, 0, -1], [-1, 1, 0], [0, 0, 1]])
        self.same(moebius(members=(parting("a"),)), [[1]])
        self.same(zeta(members=(parting("a"),)), [[1]])
        five = partings_of(["aaa", "aab", "aba", "abb", "abc"])
        self.same(moebius(five)[4], [2, -1, -1, -1, 1])

    def test_all_numbers(self):
        for members in some_lists():
            places = range(len(members))
            below = [[slow_finer(low, high) for high in members] for low in members]
            self.same(zeta(members), [[int(entry) for entry in row] for row in below])
            mu = moebius(members)
            self.assertEqual([len(row) for row in mu], [len(members)] * len(members))
            for i, j in product(places, repeat=2):
                self.assertIs(type(mu[i][j]), int)
                if i == j:
                    self.assertEqual(mu[i][j], 1)
                elif not below[i][j]:
                    self.assertEqual(mu[i][j], 0)
                else:
                    self.assertEqual(sum(mu[i][k] for k in places if below[i][k] and below[k][j]), 0)
            self.same(dimensions(members), [sum(mu[i][j] * len(members[j].lots) for j in places) for i in places])

    def test_any_order_of_the_members(self):
        for order in permutations(range(4)):
            made = moebius([parting(SQUARE[at]) for at in order])
            for i, j in product(range(4), repeat=2):
                whole = moebius(partings_of(SQUARE))
                self.same(made[i][j], whole[order[i]][order[j]])

    def test_dimensions(self):
        self.same(dimensions(partings_of(["aabb", "aaaa", "aabc", "abcd"])), [1, 1, 1, 1])
        self.same(dimensions(partings_of(["aab", "aaa"])), [1, 1])
        self.same(dimensions(members=[parting("abc")]), [3])
        # Neither closed nor orthogonal: a dimension may be negative.
        self.same(dimensions(partings_of(["aab", "abb", "aba", "abc"])), [2, 2, 2, -3])
        self.same(dimensions(partings_of(["abcd", "aabb", "abab", "abba"])), [-2, 2, 2, 2])
        self.same(dimensions(partings_of(["aaa", "aab", "aba", "abb", "abc"])), [1, 1, 1, 1, -1])
        for members in some_lists():
            names = {made.names for made in members}
            closed = all((one | other).names in names for one, other in product(members, repeat=2))
            if closed and all(slow_orthogonal(one, other) for one, other in product(members, repeat=2)):
                self.assertGreaterEqual(min(dimensions(members)), 0)

    def test_a_dimension_of_zero(self):
        self.same(dimensions(partings_of(["aaaa", "aabb", "abab", "abba", "abcd"])), [1, 1, 1, 1, 0])

    def test_sixteen_members(self):
        chain = [Parting([min(plot, k) for plot in range(16)]) for k in range(16)]
        self.same(dimensions(chain), [1] * 16)
        self.same(dimensions(chain[::-1]), [1] * 16)
        self.assertEqual(sum(map(sum, zeta(chain))), 136)

    def test_lists_are_new(self):
        members = partings_of(SQUARE)
        for call in (zeta, moebius):
            made = call(members)
            made[0][0] = 99
            made[1].clear()
            self.same(call(members)[:2], [[1, 0, 0, 0], call(members)[1]])
            self.assertEqual(len({id(row) for row in call(members)}), 4)
        dimensions(members).clear()
        self.same(dimensions(members), [1, 1, 1, 1])
        self.same([made.names for made in members], [parting(text).names for text in SQUARE])


class IntervalTest(CrossTest):
    def test_by_hand(self):
        members = partings_of(SQUARE)
        self.same(interval(members, 3, 0), [0, 1, 2, 3])
        self.same(interval(members, 0, 3), [])
        self.same(interval(members, low=3, high=1), [1, 3])
        self.same(interval(members, 1, 2), [])
        self.same(interval(members, 2, 2), [2])

    def test_all(self):
        for members in some_lists():
            places = range(len(members))
            for low, high in product(places, repeat=2):
                expected = [k for k in places
                            if slow_finer(members[low], members[k]) and slow_finer(members[k], members[high])]
                self.same(interval(members, low, high), expected)

    def test_wrong_indexes(self):
        members = partings_of(SQUARE)
        for value in NO_WHOLE + (-1, 4, BIG, -BIG):
            self.refuses(BadIndex(value), interval, members, value, None)
            self.refuses(BadIndex(value), interval, members, 0, value)

    def test_order_of_errors(self):
        self.refuses(NoPlots(), interval, [], None, None)
        self.refuses(TooMany("partings", 16), interval, [parting("ab")] * 17, None, None)
        self.refuses(RepeatedMember(2), interval, [parting("ab"), parting("a"), parting("ab")], None, None)
        self.refuses(BadIndex(3), interval, UNLIKE, 3, None)
        self.refuses(BadIndex(None), interval, UNLIKE, 2, None)
        self.refuses(UnlikePlots(3, 2), interval, UNLIKE, 0, 0)


class SumTest(CrossTest):
    def test_by_hand(self):
        members = partings_of(SQUARE)
        self.same(sum_up(members, [1, (1, 2), 3, 4]), [(1, 1), (3, 2), (4, 1), (17, 2)])
        self.same(turn_back(members, [(1, 1), (3, 2), (4, 1), (17, 2)]), [(1, 1), (1, 2), (3, 1), (4, 1)])
        self.same(sum_up(members=[parting("a")], numbers=((2, -4),)), [(-1, 2)])
        self.same(turn_back(members=[parting("a")], numbers=((2, -4),)), [(-1, 2)])

    def test_each_undoes_the_other(self):
        for at, members in enumerate(some_lists()):
            given = [(number, 1 + at % 5) for number in numbers(at, len(members), -9, 9)]
            ratios = [pair_of(fraction(pair)) for pair in given]
            summed = sum_up(members, given)
            slow = [sum(fraction(pair) for pair, high in zip(given, members) if slow_finer(low, high))
                    for low in members]
            self.same(summed, [pair_of(number) for number in slow])
            self.same(turn_back(members, summed), ratios)
            self.same(sum_up(members, turn_back(members, given)), ratios)
            rows = moebius(members)
            slow = [sum(entry * fraction(pair) for entry, pair in zip(row, given)) for row in rows]
            self.same(turn_back(members, given), [pair_of(number) for number in slow])

    def test_errors_in_their_order(self):
        members = partings_of(SQUARE)
        for call in (sum_up, turn_back):
            for value in NO_NUMBER:
                self.refuses(BadNumber(1), call, members, [1, value, None, 4, 5])
            self.refuses(NoPlots(), call, [], [None])
            self.refuses(TooMany("partings", 16), call, [parting("ab")] * 17, [None])
            self.refuses(RepeatedMember(1), call, [parting("ab"), parting("ab"), parting("a")], [None])
            self.refuses(BadNumber(0), call, UNLIKE, [None])
            self.refuses(BadNumber(100), call, UNLIKE, [1] * 100 + [None])
            self.refuses(UnlikePlots(3, 2), call, UNLIKE, [])
            for count in (0, 1, 3, 5, 17, 100):
                self.refuses(BadShape(), call, members, [1] * count)

    def test_arguments_stay_and_lists_are_new(self):
        members, given = partings_of(SQUARE), [1, (2, 4), 3, 4]
        for call in (sum_up, turn_back):
            made = call(members, given)
            kept = list(made)
            made.clear()
            self.same(call(members, given), kept)
            self.same(given, [1, (2, 4), 3, 4])
            self.assertEqual(len(members), 4)


class MemberErrorsTest(CrossTest):
    def test_errors(self):
        for call in (zeta, moebius, dimensions):
            self.refuses(NoPlots(), call, [])
            self.refuses(NoPlots(), call, ())
            self.refuses(TooMany("partings", 16), call, [parting("ab")] * 16 + [parting("abc")])
            self.refuses(RepeatedMember(1), call, [parting("ab"), parting("xy")])
            self.refuses(RepeatedMember(3), call, [parting("abc"), parting("ab"), parting("a"), parting("ab")])
            self.refuses(UnlikePlots(3, 2), call, UNLIKE)
            self.refuses(UnlikePlots(1, 3), call, UNLIKE[::-1][:1] + UNLIKE[:1])
