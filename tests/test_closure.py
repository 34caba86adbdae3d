from itertools import combinations, product

from crossmeans.closure import (closed_by_joins, closed_by_meets, closure, covers, is_block_structure, is_simple,
                                needed, order_members)
from crossmeans.errors import NoPlots, RepeatedMember, TooMany, UnlikePlots
from crossmeans.lattice import is_strictly_finer
from crossmeans.matrices import matrix_product, projector
from crossmeans.partings import Parting
from tests.helpers import (CrossTest, lots_as_sets, mixed_lists, names_of, parting, partings_of, slow_closure,
                           slow_join)

# Unequal joins of 1 to 4 of these: 15, and neither trivial parting is among them.
PAIRS = [parting(text) for text in ("aabcdefghi", "abccdefghi", "abcdeefghi", "abcdefgghi")]
LISTED = (
    [["aab", "abb"], ["aaa"], ["abc"], ["aab", "aab", "aaa"], ["abab", "aabb"], ["abab", "aabb", "abba"],
     ["abcd", "aabb", "abab", "aaaa"], ["abcd", "aabb", "abab", "aaaa", "abba"], ["aabc", "abbc", "abcc"],
     ["abcd", "aaaa", "aabb"], ["abcd", "aaaa", "aabc"], ["a"], ["a", "a"], ["abcdef", "aabbcc", "ababab", "aaaaaa"],
     ["abcdef", "aaabbb", "abcabc", "aaaaaa"]])


class ClosureTest(CrossTest):
    def test_small_lists(self):
        for texts in LISTED:
            for top, bottom in product((False, True), repeat=2):
                made = closure(partings_of(texts), top=top, bottom=bottom)
                self.assertIs(type(made), list)
                self.same(names_of(made), slow_closure(partings_of(texts), top, bottom))

    def test_mixed_lists(self):
        for listed in mixed_lists(4, 60, 5):
            for top, bottom in product((False, True), repeat=2):
                expected = slow_closure(listed, top, bottom)
                self.same(names_of(closure(listed, top=top, bottom=bottom)), expected)

    def test_the_top_alone_is_added_by_default(self):
        self.same(names_of(closure([parting("aab"), parting("abb")])), [(0, 0, 0), (0, 0, 2), (0, 1, 1)])
        self.same(names_of(closure([parting("aab")])), [(0, 0, 0), (0, 0, 2)])
        self.same(names_of(closure(partings=(parting("aab"),), top=False)), [(0, 0, 2)])
        self.same(names_of(closure([parting("aab")], bottom=True)), [(0, 0, 0), (0, 0, 2), (0, 1, 2)])

    def test_one_plot(self):
        self.same(names_of(closure([parting("a")] * 16, bottom=True)), [(0,)])

    def test_closure_order(self):
        listed = partings_of(["abcd", "abbb", "aabb", "abab", "aaab", "aabc"])
        self.same(names_of(order_members(listed)), [(0, 0, 0, 3), (0, 0, 2, 2), (0, 1, 0, 1), (0, 1, 1, 1),
                                                   (0, 0, 2, 3), (0, 1, 2, 3)])

    def test_fifteen_sixteen_and_seventeen_members(self):
        self.assertEqual(len(closure(PAIRS, top=False)), 15)
        self.assertEqual(len(closure(PAIRS)), 16)
        self.assertEqual(len(closure(PAIRS, top=False, bottom=True)), 16)
        self.refuses(TooMany("members", 16), closure, PAIRS, bottom=True)
        self.refuses(TooMany("members", 16), closure, PAIRS + [parting("abcdefghij")])
        chain = [Parting([min(plot, k) for plot in range(16)]) for k in range(16)]
        self.assertEqual(len(closure(chain, bottom=True)), 16)
        self.assertEqual(len(closure(chain[1:])), 16)
        self.refuses(TooMany("members", 16), closure, chain[1:] + [parting("aabcdefghijklmno")])

    def test_very_many_joins_are_refused(self):
        listed = [Parting([0 if plot in (k, k + 1) else plot + 1 for plot in range(16)]) for k in range(15)]
        self.refuses(TooMany("members", 16), closure, listed)

    def test_unlike_counts_come_before_too_many_members(self):
        self.refuses(UnlikePlots(10, 2), closure, PAIRS + [parting("ab")], bottom=True)

    def test_the_list_stays_and_each_result_is_new(self):
        listed = [parting("aab")]
        closure(listed, bottom=True).clear()
        self.same(names_of(listed), [(0, 0, 2)])
        self.assertEqual(len(closure(listed, bottom=True)), 3)


class ListTest(CrossTest):
    def test_order_members(self):
        for listed in mixed_lists(4, 30, 9):
            expected = sorted({made.names for made in listed}, key=lambda names: (len(set(names)), names))
            self.same(names_of(order_members(listed)), expected)
        self.same(names_of(order_members(partings=[parting("ab")])), [(0, 1)])

    def test_closed(self):
        for listed in [partings_of(texts) for texts in LISTED] + mixed_lists(4, 60, 6):
            names = {made.names for made in listed}
            joins = {slow_join(left, right) for left in listed for right in listed}
            meets = {(left & right).names for left in listed for right in listed}
            self.same(closed_by_joins(listed), joins <= names)
            self.same(closed_by_meets(listed), meets <= names)
        self.same(closed_by_joins(partings=[parting("aab")]), True)
        self.same(closed_by_meets(partings=[parting("aab"), parting("abb")]), False)

    def test_needed_by_hand(self):
        self.same(needed(partings_of(["aaa", "aab", "abb"])), [1, 2])
        self.same(needed(partings_of(["aaa", "aab", "aab"])), [0, 1])
        self.same(needed(partings_of(["abc", "aaa", "abb"])), [0, 1, 2])
        self.same(needed(partings_of(["aab", "aab", "abb", "abb", "aaa"])), [0, 2])
        self.same(needed(partings=partings_of(["aaab", "abbc", "aabc", "aaab"])), [1, 2])

    def test_needed(self):
        for listed in [partings_of(texts) for texts in LISTED] + mixed_lists(4, 80, 8):
            kept = needed(listed)
            expected = []
            for at, made in enumerate(listed):
                finer = [other for other in listed if other.names != made.names and is_strictly_finer(other, made)]
                joined = finer[0].names if finer else None
                for other in finer:
                    joined = slow_join(Parting(list(joined)), other)
                if joined != made.names and made.names not in names_of(listed[:at]):
                    expected.append(at)
            self.same(kept, expected)
            for top, bottom in product((False, True), repeat=2):
                self.same(slow_closure([listed[at] for at in kept], top, bottom), slow_closure(listed, top, bottom))

    def test_covers_by_hand(self):
        self.same(covers(partings_of(["abcd", "aabb", "abab", "aaaa"])), [(0, 1), (0, 2), (1, 3), (2, 3)])
        self.same(covers(partings_of(["aaaa", "abcd", "aabb"])), [(1, 2), (2, 0)])
        self.same(covers(members=[parting("ab")]), [])
        self.same(covers(partings_of(["aab", "abb"])), [])

    def test_covers(self):
        for listed in mixed_lists(4, 40, 8):
            listed = order_members(listed)[::-1]
            below = {(low, high) for low in range(len(listed)) for high in range(len(listed))
                     if low != high and all(any(lot <= other for other in lots_as_sets(listed[high]))
                                            for lot in lots_as_sets(listed[low]))}
            expected = sorted(pair for pair in below
                              if not any((pair[0], k) in below and (k, pair[1]) in below for k in range(len(listed))))
            self.same(covers(listed), expected)

    def test_structures_by_hand(self):
        for texts, block, simple in (
                (["abcd", "aaaa"], True, True), (["abcd", "aabb", "abab", "aaaa"], True, True),
                (["abcd", "aabb", "abab", "aaaa", "abba"], True, True), (["abcd", "aaaa", "aabc"], True, False),
                (["abcd", "aabb"], False, False), (["aaaa", "aabb"], False, False), (["a"], True, True),
                (["abcd", "aabb", "abab", "aaaa", "abab"], True, True), (["aabb", "abab", "aaaa"], False, False),
                (["abc", "aab", "abb", "aaa"], False, False), (["abcd", "aabc", "abcc", "aaaa"], False, False),
                (["abcd", "aabc", "abcc", "aabb", "aaaa"], True, False),
                (["abcdefgh", "aabbccdd", "abababab", "aaaaaaaa"], True, True),
                (["abcdefgh", "aabbaabb", "abababab", "aaaaaaaa"], True, False),
                (["abcdefgh", "aabbaabb", "abababab", "abcdabcd", "aaaaaaaa"], True, True)):
            self.same(is_block_structure(partings_of(texts)), block)
            self.same(is_simple(partings_of(texts)), simple)
        self.same(is_block_structure(partings=[parting("a")]), True)
        self.same(is_simple(partings=[parting("ab")]), False)

    def test_structures(self):
        for listed in mixed_lists(4, 80, 5):
            listed = listed + [Parting.one(4), Parting.single(4)]
            joins = {slow_join(left, right) for left in listed for right in listed}
            matrices = [projector(made) for made in listed]
            alike = all(matrix_product(left, right) == matrix_product(right, left)
                        for left, right in combinations(matrices, 2))
            block = joins <= {made.names for made in listed} and alike
            self.same(is_block_structure(listed), block)
            simple = (block and closed_by_meets(listed) and all(len(set(made.sizes)) == 1 for made in listed))
            self.same(is_simple(listed), simple)

    def test_errors(self):
        for call in (closure, order_members, closed_by_joins, closed_by_meets, needed, is_block_structure, is_simple,
                     covers):
            self.refuses(NoPlots(), call, [])
            self.refuses(NoPlots(), call, ())
            self.refuses(TooMany("partings", 16), call, [parting("ab")] * 16 + [parting("abc")])
            self.refuses(UnlikePlots(3, 2), call, [parting("aab"), parting("abb"), parting("ab"), parting("a")])
            self.refuses(UnlikePlots(1, 2), call, [parting("a"), parting("ab")])

    def test_repeated_members(self):
        self.refuses(RepeatedMember(1), covers, [parting("ab"), parting("xy")])
        self.refuses(RepeatedMember(2), covers, [parting("abc"), parting("abcd"), parting("abc"), parting("abcd")])
        self.refuses(RepeatedMember(15), covers, [Parting([min(plot, k) for plot in range(16)])
                                                  for k in (*range(15), 0)])
        self.refuses(TooMany("partings", 16), covers, [parting("ab")] * 17)
