from itertools import combinations, permutations, product
from math import factorial, prod

from crossmeans.autos import rearrangements
from crossmeans.closure import is_block_structure
from crossmeans.crossnest import (coordinates, cross_partings, group_order, nest_partings, plot_at, plots_of,
                                  product_parting, stratum_size, structure, term_parting)
from crossmeans.errors import BadIndex, BadPlot, BadShape, BadSizes, BadTerm, NoPlots, TooMany, UnknownName, UnlikePlots
from crossmeans.formread import read_formula
from crossmeans.formula import Formula
from crossmeans.partings import Parting
from crossmeans.strata import Strata
from tests.helpers import (ANY_VALUES, BIG, NO_WHOLE, CrossTest, every_parting, every_tree, names_of, parting,
                           partings_of, slow_orthogonal)

SIZES = [("a", 2), ("b", 3), ("c", 1), ("d", 2)]
RIGHT_SIZES = (SIZES, SIZES[::-1], [("a", 2)], [("a", 1)], [("a", 16)], [("x1", 4), ("b", 4)],
               (["a", 2], ["b", 2], ["c", 2], ["d", 2]), [("a", 3), ["b", 5]], [("a", 1), ("b", 1)])
# Entries that are no pair of a factor name and a count of levels.
BAD_SIZES = ((), [], ("b",), ["b"], ("b", 2, 2), ("b", 2, None), "b2", "b", None, True, 2, ("B", 2), ("", 2), ("1", 2),
             ("abcdefg", 2), (2, "b"), (2, 2), (None, 2), (["b"], 2), (("b",), 2), ("b", 0), ("b", -1), ("b", True),
             ("b", None), ("b", "2"), ("b", (2, 1)), ("b", [2]), ("b", (1, 1)), [["b", 2]], (("b", 2),), ("b", -BIG),
             ("b ", 2), {})


def slow_plots(sizes):
    """The tuples of levels of all plots in their order."""
    return list(product(*(range(levels) for _, levels in sizes)))


def slow_parting(sizes, term):
    names = [name for name, _ in sizes]
    keys = [tuple(levels[names.index(name)] for name in sorted(set(term))) for levels in slow_plots(sizes)]
    return tuple(keys.index(key) for key in keys)


def sizes_calls():
    """All calls of the sizes, with the other arguments wrong where that may be."""
    formula = read_formula("x/y")
    return (plots_of, lambda sizes: coordinates(sizes, None), lambda sizes: plot_at(sizes, [None] * 9),
            lambda sizes: term_parting(sizes, [None]), lambda sizes: structure(formula, sizes),
            lambda sizes: stratum_size(formula, sizes, [None]), lambda sizes: group_order(formula, sizes))


class SizesTest(CrossTest):
    def test_plots_of(self):
        for sizes in RIGHT_SIZES:
            self.same(plots_of(sizes), prod(levels for _, levels in sizes))
        self.same(plots_of(sizes=(("a", 2),)), 2)

    def test_wrong_sizes(self):
        for call in sizes_calls():
            self.refuses(NoPlots(), call, [])
            self.refuses(NoPlots(), call, ())
            for count in (5, 17, 100):
                self.refuses(TooMany("factors", 4), call, [None] * count)
            for value in BAD_SIZES:
                self.refuses(BadSizes(0), call, [value])
                self.refuses(BadSizes(1), call, [("a", 2), value, None, ("a", 2)])
                self.refuses(BadSizes(3), call, [("a", 2), ["c", 99], ("d", BIG), value])
            self.refuses(BadSizes(1), call, [("b", 2), ("b", 3)])
            self.refuses(BadSizes(2), call, [("b", 2), ("c", 3), ["b", 2], None])
            for sizes in ([("a", 17)], [("a", BIG)], [("a", 2), ("b", 9)], [("a", 4), ("b", 4), ("c", 2)],
                          [("a", BIG), ("b", BIG), ("c", BIG), ("d", BIG)]):
                self.refuses(TooMany("plots", 16), call, sizes)

    def test_coordinates_and_plots(self):
        for sizes in RIGHT_SIZES:
            for plot, levels in enumerate(slow_plots(sizes)):
                self.same(coordinates(sizes, plot), levels)
                self.same(plot_at(sizes, list(levels)), plot)
                self.same(plot_at(sizes, levels), plot)
        self.same(coordinates(sizes=SIZES, plot=7), (1, 0, 0, 1))
        self.same(plot_at(sizes=SIZES, levels=[1, 2, 0, 1]), 11)

    def test_wrong_plots(self):
        for value in NO_WHOLE + (-1, 12, 16, BIG, -BIG):
            self.refuses(BadPlot(value), coordinates, SIZES, value)

    def test_wrong_levels(self):
        for levels in ([], [0], [0, 0, 0], [0] * 5, [None] * 5, [0] * 100, ()):
            self.refuses(BadShape(), plot_at, SIZES, levels)
        for value in NO_WHOLE + (-1, BIG):
            for at in range(4):
                levels = [0, 2, 0, 1]
                levels[at:] = [value] + [None] * (3 - at)
                self.refuses(BadIndex(value), plot_at, SIZES, levels)
        for at, (_, count) in enumerate(SIZES):
            levels = [0] * 4
            levels[at] = count
            self.refuses(BadIndex(count), plot_at, SIZES, levels)

    def test_arguments_stay(self):
        sizes, levels, term = [["a", 2], ["b", 3]], [1, 2], ["b", "b"]
        plots_of(sizes), coordinates(sizes, 0), plot_at(sizes, levels), term_parting(sizes, term)
        structure(read_formula("a*b"), sizes).clear()
        self.same((sizes, levels, term), ([["a", 2], ["b", 3]], [1, 2], ["b", "b"]))
        self.assertEqual(len(structure(read_formula("a*b"), sizes)), 4)


class TermTest(CrossTest):
    def test_term_parting(self):
        for sizes in RIGHT_SIZES:
            names = [name for name, _ in sizes]
            for count in range(len(names) + 1):
                for term in permutations(names, count):
                    self.same(term_parting(sizes, list(term)).names, slow_parting(sizes, term))
            self.same(term_parting(sizes, ()).names, (0,) * plots_of(sizes))
            self.same(term_parting(sizes, names * 25).names, slow_parting(sizes, names))
        self.same(term_parting(sizes=[("a", 2), ("b", 2)], term=("b",)).names, (0, 1, 0, 1))

    def test_more_than_nine_levels(self):
        self.same(term_parting([("a", 16)], ["a"]).many, 16)
        self.same(term_parting([("a", 12)], ["a"]).names, tuple(range(12)))

    def test_unknown_names(self):
        for value in ANY_VALUES + ("z", "A", "aa", ["a"], ("a",)):
            self.refuses(UnknownName(value), term_parting, SIZES, [value, None])
            self.refuses(UnknownName(value), term_parting, SIZES, ["d", "a", value, "z"])


class StructureTest(CrossTest):
    def test_example(self):
        found = structure(read_formula("a/b"), [("a", 2), ("b", 2)])
        self.same([(term, made.names) for term, made in found],
                  [((), (0, 0, 0, 0)), (("a",), (0, 0, 2, 2)), (("a", "b"), (0, 1, 2, 3))])

    def test_all_formulas(self):
        for count, levels in ((1, (5,)), (2, (2, 4)), (3, (2, 3, 2)), (3, (3, 1, 2)), (4, (2, 1, 3, 2))):
            names = "abcd"[:count]
            trees = every_tree(list(names))
            for at, tree in enumerate(trees if count < 4 else trees[::13]):
                formula = Formula(tree)
                sizes = list(zip(names, levels))[at % count:] + list(zip(names, levels))[:at % count]
                self.check_structure(formula, sizes, structure(formula, sizes))

    def check_structure(self, formula, sizes, found):
        levels = dict(sizes)
        self.assertIs(type(found), list)
        self.same([term for term, _ in found], [()] + formula.terms())
        for term, made in found:
            self.same(made.names, slow_parting(sizes, term))
        for (one, first), (other, second) in combinations(found, 2):
            self.assertTrue(slow_orthogonal(first, second))
            self.same((first | second).names, slow_parting(sizes, set(one) & set(other)))
        for term, made in found:
            above = {name for name in term for low in term if name in formula.above(low)}
            size = prod(levels[name] - (name not in above) for name in term)
            self.same(stratum_size(formula, sizes, list(term)[::-1] * 2), size)
            if min(levels.values()) > 1:
                strata = Strata([made for _, made in found])
                self.same(strata.dimensions[strata.place(made)], size)

    def test_equal_partings_stay(self):
        found = structure(read_formula("a*b"), [("b", 1), ("a", 2)])
        self.same([(term, made.names) for term, made in found],
                  [((), (0, 0)), (("a",), (0, 1)), (("b",), (0, 0)), (("a", "b"), (0, 1))])

    def test_unlike_names(self):
        formula = read_formula("b/a*c")
        for call in (lambda sizes: structure(formula, sizes), lambda sizes: stratum_size(formula, sizes, [None]),
                     lambda sizes: group_order(formula, sizes)):
            self.refuses(UnknownName("b"), call, [("x", 2)])
            self.refuses(UnknownName("b"), call, [("a", 2), ("x", 2), ("c", 2)])
            self.refuses(UnknownName("a"), call, [("x", 2), ("b", 2)])
            self.refuses(UnknownName("c"), call, [("a", 2), ("x", 2), ("b", 2)])
            self.refuses(UnknownName("x"), call, [("a", 1), ("x", 2), ("b", 2), ("c", 2)])
            self.refuses(UnknownName("x"), call, [("x", 1), ("a", 2), ("b", 2), ("c", 2)])
            self.refuses(TooMany("plots", 16), call, [("x", 17)])
        self.refuses(UnknownName("x"), structure, read_formula("a"), [("a", 2), ("x", 2), ("y", 2)])

    def test_stratum_size(self):
        formula, sizes = read_formula("a/b*c"), [("a", 2), ("b", 3), ("c", 2)]
        for term, size in (([], 1), (["a"], 1), (["a", "b"], 4), (["b", "a", "b"], 4), (["c"], 1), (["a", "c"], 1),
                           (["c", "b", "a"], 4), ((), 1), (("c",), 1)):
            self.same(stratum_size(formula, sizes, term), size)
        self.same(stratum_size(formula=formula, sizes=sizes, term=("c",)), 1)
        self.same(stratum_size(formula, [("a", 1), ("b", 3), ("c", 1)], ["a", "b"]), 2)
        self.same(stratum_size(formula, [("a", 1), ("b", 3), ("c", 1)], ["c"]), 0)
        self.same(stratum_size(formula, [("a", 1), ("b", 3), ("c", 1)], []), 1)
        for term in (["b"], ["b", "c"], ["a", "z"], ["z"], ["A"], [["a"]], [("a",)]):
            self.refuses(BadTerm(), stratum_size, formula, sizes, term)
        for value in ANY_VALUES:
            self.refuses(BadTerm(), stratum_size, formula, sizes, [value])
            self.refuses(BadTerm(), stratum_size, formula, sizes, ["a", value])

    def test_group_order(self):
        for text, sizes, count in (
                ("a", [("a", 4)], 24), ("a*b", [("a", 3), ("b", 2)], 12), ("a/b", [("a", 2), ("b", 3)], 72),
                ("b/a", [("a", 3), ("b", 2)], 72), ("a/b", [("a", 1), ("b", 5)], 120), ("a", [("a", 1)], 1),
                ("(a*b)/c", [("a", 2), ("b", 2), ("c", 2)], 64), ("a/b/c", [("a", 2), ("b", 2), ("c", 2)], 128),
                ("a/b*c", [("a", 2), ("b", 2), ("c", 2)], 16), ("a", [("a", 16)], factorial(16)),
                ("a/b", [("a", 8), ("b", 2)], factorial(8) * 2 ** 8)):
            self.same(group_order(read_formula(text), sizes), count)
        self.same(group_order(formula=read_formula("a"), sizes=[("a", 3)]), 6)

    def test_group_order_counts_the_arrangements(self):
        for text, levels in (("a*b", (2, 3)), ("a/b", (3, 2)), ("(a*b)/c", (2, 2, 2)), ("a/b/c", (2, 2, 2)),
                             ("a/(b*c)", (2, 2, 2)), ("a*b*c", (2, 2, 2)), ("a/b", (2, 3))):
            sizes = list(zip("abc", levels))
            formula = read_formula(text)
            listed = [made for _, made in structure(formula, sizes)]
            self.same(group_order(formula, sizes), len(rearrangements(listed)))


class ProductTest(CrossTest):
    def test_product_parting(self):
        for first, second in product(every_parting(3), every_parting(4)):
            keys = list(product(first.names, second.names))
            self.same(product_parting(first, second).names, tuple(keys.index(key) for key in keys))
        self.same(product_parting(first=parting("ab"), second=parting("aa")).names, (0, 0, 2, 2))
        self.same(product_parting(Parting.single(4), Parting.single(4)).many, 16)

    def test_too_many_plots(self):
        self.refuses(TooMany("plots", 16), product_parting, Parting.one(3), Parting.one(6))
        self.refuses(TooMany("plots", 16), product_parting, Parting.one(16), Parting.one(2))
        for call in (cross_partings, nest_partings):
            self.refuses(TooMany("plots", 16), call, [Parting.one(9)], [Parting.one(2)])
            self.same(call([Parting.one(8)], [Parting.one(2)])[0].plots, 16)

    def test_cross_partings(self):
        left, right = partings_of(["aa", "ab"]), partings_of(["aaa", "aab", "abc"])
        self.same(names_of(cross_partings(left, right)),
                  [(0, 0, 0, 0, 0, 0), (0, 0, 2, 0, 0, 2), (0, 1, 2, 0, 1, 2), (0, 0, 0, 3, 3, 3), (0, 0, 2, 3, 3, 5),
                   (0, 1, 2, 3, 4, 5)])
        self.same(names_of(cross_partings(left=(parting("aa"), parting("bb")), right=partings_of(["aa", "ab", "xy"]))),
                  [(0, 0, 0, 0), (0, 1, 0, 1)])

    def test_nest_partings(self):
        left, right = partings_of(["aa", "ab"]), partings_of(["aaa", "aab", "abc"])
        self.same(names_of(nest_partings(left, right)),
                  [(0, 0, 0, 0, 0, 0), (0, 0, 0, 3, 3, 3), (0, 0, 2, 3, 3, 5), (0, 1, 2, 3, 4, 5)])
        self.same(names_of(nest_partings(left=[parting("aa")], right=(parting("ab"), parting("aa")))),
                  [(0, 0, 0, 0), (0, 1, 2, 3), (0, 0, 2, 2)])

    def test_block_structures(self):
        blocks = [partings_of(texts) for texts in (["aa", "ab"], ["a"], ["aaaa", "aabb", "abab", "abcd"], ["aaa", "abc"],
                                                   ["aaaa", "aaab", "abcd"])]
        for left, right in product(blocks, repeat=2):
            if left[0].plots * right[0].plots <= 16 and len(left) * len(right) <= 16:
                for made in (cross_partings(left, right), nest_partings(left, right)):
                    self.assertTrue(is_block_structure(made))

    def test_too_many_results(self):
        listed = every_parting(4)
        self.same(len(cross_partings(listed[:4], listed[:4])), 16)
        self.same(len(cross_partings(listed[:4] * 4, listed[:4] * 4)), 16)
        self.refuses(TooMany("partings", 16), cross_partings, listed[:4], listed[:5])
        self.same(len(nest_partings(listed[:8], listed[:8])), 16)
        self.refuses(TooMany("partings", 16), nest_partings, listed[:8], listed[:9])
        self.refuses(TooMany("partings", 16), nest_partings, listed[:14], listed[:14])

    def test_errors_in_their_order(self):
        broken, many, big = [parting("ab"), parting("abc")], [parting("ab")] * 17, Parting.one(16)
        for call in (cross_partings, nest_partings):
            self.refuses(NoPlots(), call, [], many)
            self.refuses(TooMany("partings", 16), call, many, [])
            self.refuses(NoPlots(), call, broken, [])
            self.refuses(TooMany("partings", 16), call, broken, many)
            self.refuses(UnlikePlots(2, 3), call, broken, [big, parting("a")])
            self.refuses(UnlikePlots(16, 1), call, [parting("ab")], [big, parting("a")])
            self.refuses(TooMany("plots", 16), call, [parting("ab")], [big])
            self.refuses(TooMany("plots", 16), call, [big] * 16, [big] * 16)

    def test_nothing_is_shared(self):
        left, right = [parting("ab")], [parting("aa")]
        for call in (cross_partings, nest_partings):
            call(left, right).clear()
            self.assertGreater(len(call(left, right)), 0)
        self.assertEqual((len(left), len(right)), (1, 1))
