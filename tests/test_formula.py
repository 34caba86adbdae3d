from itertools import permutations, product

from crossmeans.errors import BadName, BadTree, RepeatedName, TooMany, UnknownName
from crossmeans.formula import Formula, same_terms
from tests.helpers import ANY_VALUES, CrossTest, every_tree, factors_of, parting

NAMES = ("a", "z", "ab", "a1", "abcdef", "x00009", "factor", "cross", "nest")
NO_NAMES = ("", "A", "1", "1a", "aB", "abcdefg", "a ", " a", "a_", "a-b", "a.b", "a*b", "a\n", "(a)", "~", 0, 1, -1, 7,
            None, True, False, (), [], ("a",), ["a"], (("a",),), ("factor", "a"))
A, B, C, D, E = (("factor", name) for name in "abcde")


def slow_terms(tree):
    """The terms as a set of sets."""
    if tree[0] == "factor":
        return {frozenset([tree[1]])}
    lefts, rights = slow_terms(tree[1]), slow_terms(tree[2])
    if tree[0] == "nest":
        return lefts | {frozenset(factors_of(tree[1])) | right for right in rights}
    return lefts | rights | {left | right for left, right in product(lefts, rights)}


def crossed(names):
    tree = ("factor", names[0])
    for name in names[1:]:
        tree = ("cross", tree, ("factor", name))
    return tree


def trees_of(count):
    return [tree for size in range(1, count + 1) for tree in every_tree(list("abcd"[:size]))]


class TreeTest(CrossTest):
    def test_right_trees(self):
        for tree in trees_of(4):
            made = Formula(tree)
            self.same(made.tree, tree)
            self.same(made.factors, tuple(factors_of(tree)))
        for name in NAMES:
            self.same(Formula(tree=("factor", name)).factors, (name,))
            self.same(Formula(("nest", ("factor", name), ("factor", "x"))).factors, (name, "x"))

    def test_wrong_names(self):
        for name in NO_NAMES:
            self.refuses(BadTree(), Formula, ("factor", name))
            for kind in ("cross", "nest"):
                self.refuses(BadTree(), Formula, (kind, A, ("factor", name)))
                self.refuses(BadTree(), Formula, (kind, ("factor", name), A))

    def test_wrong_values(self):
        values = ANY_VALUES + (
            "a", "factor", ("factor",), ("factor", "a", "b"), ("factor", A), ("cross",), ("cross", A), ("cross", A, B, C),
            ("nest", A), ("nest", A, B, C), ("Factor", "a"), ("fact", "a"), ("", "a"), (None, "a"), (0, A, B),
            ("factor", "a", ()), ["factor", "a"], ("cross", ["factor", "a"], B), ("cross", A, ["factor", "b"]),
            ["cross", A, B], ("factor", ["a"]), (["factor"], "a"), (["cross"], A, B), (("cross",), A, B), ("plus", A, B),
            ("cross", "a", "b"), ("cross", A, "b"), ("cross", A, None), ("cross", A, 1), ("cross", (), B), (A, B),
            ("cross", (A, B)), ("cross", "nest"), (True, A, B), ("nest", A, ("cross", B)), {}, "cross", (A,), ((A,),))
        for value in values:
            self.refuses(BadTree(), Formula, value)
            self.refuses(BadTree(), Formula, ("cross", A, value))
            self.refuses(BadTree(), Formula, ("nest", value, A))
            # The whole value is looked at before the factors are counted.
            self.refuses(BadTree(), Formula, ("nest", crossed("aabcde"), value))
            self.refuses(BadTree(), Formula, ("nest", value, crossed("aabcde")))

    def test_deep_values(self):
        for wrong in ("a", (), [], None):
            for kind in ("nest", "cross"):
                value = wrong
                for _ in range(39):
                    value = (kind, A, value)
                self.refuses(BadTree(), Formula, value)
        value = A
        for _ in range(39):
            value = ("nest", value, A)
        self.refuses(TooMany("factors", 4), Formula, value)
        value = A
        for _ in range(6):
            # Shared tuples count each time: 64 factors in all.
            value = ("cross", value, value)
        self.refuses(TooMany("factors", 4), Formula, value)
        value = "a"
        for _ in range(40):
            value = (value,)
        self.refuses(BadTree(), Formula, value)
        value = []
        for _ in range(39):
            value = [value]
        self.refuses(BadTree(), Formula, value)

    def test_too_many_and_repeated_factors(self):
        self.same(Formula(crossed("abcd")).factors, ("a", "b", "c", "d"))
        for names in ("abcde", "aaaaa", "abcda", "aabcd", "abcdefgh"):
            self.refuses(TooMany("factors", 4), Formula, crossed(names))
        for names, name in (("aa", "a"), ("aba", "a"), ("abb", "b"), ("abba", "b"), ("abab", "a"), ("abcc", "c")):
            self.refuses(RepeatedName(name), Formula, crossed(names))
        self.refuses(RepeatedName("b"), Formula, ("nest", ("cross", A, B), ("cross", B, A)))
        self.refuses(RepeatedName("a"), Formula, ("nest", A, ("cross", A, B)))

    def test_factor(self):
        for name in NAMES:
            self.same(Formula.factor(name).tree, ("factor", name))
        self.same(Formula.factor(name="b").factors, ("b",))
        for value in NO_NAMES + tuple(value for value in ANY_VALUES if not isinstance(value, str)):
            self.refuses(BadName(value), Formula.factor, value)


class TermsTest(CrossTest):
    def test_example(self):
        made = Formula.factor("a") // (Formula.factor("b") * Formula.factor("c"))
        self.same(made.terms(), [("a",), ("a", "b"), ("a", "c"), ("a", "b", "c")])

    def test_by_hand(self):
        self.same(Formula(A).terms(), [("a",)])
        self.same(Formula(("cross", B, A)).terms(), [("b",), ("a",), ("b", "a")])
        self.same(Formula(("nest", B, A)).terms(), [("b",), ("b", "a")])
        self.same(Formula(("nest", ("cross", A, B), C)).terms(), [("a",), ("b",), ("a", "b"), ("a", "b", "c")])
        self.same(Formula(("cross", ("nest", D, A), C)).terms(),
                  [("d",), ("c",), ("d", "a"), ("d", "c"), ("d", "a", "c")])
        self.same(Formula(crossed("dcba")).terms()[:7],
                  [("d",), ("c",), ("b",), ("a",), ("d", "c"), ("d", "b"), ("d", "a")])
        self.assertEqual(len(Formula(crossed("dcba")).terms()), 15)

    def test_all_trees(self):
        for tree in trees_of(4):
            made = Formula(tree)
            found = made.terms()
            self.assertIs(type(found), list)
            self.assertEqual({frozenset(term) for term in found}, slow_terms(tree))
            places = [tuple(made.factors.index(name) for name in term) for term in found]
            self.assertEqual(places, sorted(places, key=lambda term: (len(term), term)))
            self.assertEqual(len(set(places)), len(places))
            for term in places:
                self.assertEqual(list(term), sorted(term))
            for name in made.factors:
                expected = tuple(high for high in made.factors if high != name
                                 and all(high in term for term in slow_terms(tree) if name in term))
                self.same(made.above(name), expected)

    def test_above(self):
        made = Formula(("nest", ("cross", A, B), C))
        self.same([made.above(name) for name in "abc"], [(), (), ("a", "b")])
        self.same(made.above(name="c"), ("a", "b"))
        self.same(Formula(("nest", ("nest", C, B), A)).above("a"), ("c", "b"))
        self.same(Formula(("nest", C, ("nest", B, A))).above("a"), ("c", "b"))
        for value in NO_NAMES + ANY_VALUES + ("d", "ab", "c1"):
            self.refuses(UnknownName(value), made.above, value)

    def test_lists_are_new(self):
        made = Formula(("cross", A, B))
        made.terms().clear()
        self.same(made.terms(), [("a",), ("b",), ("a", "b")])

    def test_same_terms(self):
        trees = trees_of(3)
        for left, right in product(trees, repeat=2):
            self.same(same_terms(Formula(left), Formula(right)), slow_terms(left) == slow_terms(right))
        for left in permutations((A, B, C, D)):
            self.same(same_terms(Formula(crossed([tree[1] for tree in left])), Formula(crossed("abcd"))), True)
        self.same(same_terms(left=Formula(A), right=Formula(B)), False)


class OperatorTest(CrossTest):
    def test_trees(self):
        left, right = Formula(("nest", A, B)), Formula(("cross", C, D))
        self.same((left * right).tree, ("cross", left.tree, right.tree))
        self.same((left // right).tree, ("nest", left.tree, right.tree))
        self.same((right // left).factors, ("c", "d", "a", "b"))
        self.same(left.tree, ("nest", A, B))

    def test_errors_in_their_order(self):
        four, two, one = Formula(crossed("abcd")), Formula(crossed("ab")), Formula(E)
        for call in (lambda left, right: left * right, lambda left, right: left // right):
            self.refuses(TooMany("factors", 4), call, four, one)
            self.refuses(TooMany("factors", 4), call, four, Formula(A))
            self.refuses(TooMany("factors", 4), call, Formula(A), four)
            self.refuses(RepeatedName("a"), call, two, two)
            self.refuses(RepeatedName("b"), call, two, Formula(("nest", B, A)))
            self.refuses(RepeatedName("b"), call, Formula(crossed("bcd")), Formula(B))

    def test_equality(self):
        left = Formula(("cross", A, B))
        self.same(left == Formula.factor("a") * Formula.factor("b"), True)
        self.same(left != Formula.factor("a") * Formula.factor("b"), False)
        for tree in (("cross", B, A), ("nest", A, B), A, ("cross", A, C)):
            self.same(left == Formula(tree), False)
            self.same(left != Formula(tree), True)
        for value in ANY_VALUES + (left.tree, left.factors, "a*b", parting("ab")):
            self.same(left == value, False)
            self.same(value == left, False)
            self.same(left != value, True)
