import re
from itertools import combinations, permutations, product

from crossmeans.errors import BadFormula, BadName, BadTree, RepeatedName, TooMany, UnknownName
from crossmeans.formread import formula_for, read_formula, write_formula, write_terms
from crossmeans.formula import Formula
from tests.helpers import ANY_VALUES, CrossTest, every_tree, factors_of

A, B, C, D, E = (("factor", name) for name in "abcde")


def cross(left, right):
    return ("cross", left, right)


def nest(left, right):
    return ("nest", left, right)


# The written form of each tree has just the brackets without which another tree would be read.
WRITTEN = (
    (A, "a"), (("factor", "x00009"), "x00009"), (cross(A, B), "a*b"), (nest(A, B), "a/b"),
    (cross(cross(A, B), C), "a*b*c"), (cross(A, cross(B, C)), "a*(b*c)"), (nest(nest(A, B), C), "a/b/c"),
    (nest(A, nest(B, C)), "a/(b/c)"), (nest(cross(A, B), C), "(a*b)/c"), (nest(A, cross(B, C)), "a/(b*c)"),
    (cross(nest(A, B), C), "a/b*c"), (cross(A, nest(B, C)), "a*b/c"), (cross(nest(A, B), nest(C, D)), "a/b*c/d"),
    (nest(cross(A, B), cross(C, D)), "(a*b)/(c*d)"), (nest(nest(A, B), nest(C, D)), "a/b/(c/d)"),
    (cross(cross(A, B), cross(C, D)), "a*b*(c*d)"), (cross(A, cross(B, cross(C, D))), "a*(b*(c*d))"),
    (nest(A, nest(B, nest(C, D))), "a/(b/(c/d))"), (cross(cross(cross(A, B), C), D), "a*b*c*d"),
    (nest(nest(nest(A, B), C), D), "a/b/c/d"), (nest(nest(cross(A, B), C), D), "(a*b)/c/d"),
    (nest(A, cross(nest(B, C), D)), "a/(b/c*d)"), (cross(A, cross(nest(B, C), D)), "a*(b/c*d)"),
    (nest(cross(A, nest(B, C)), D), "(a*b/c)/d"))


def slow_read(text):
    """The tree that a right text without spaces stands for, by its last sign outside of brackets."""
    depth, places = 0, {"*": [], "/": []}
    for at, sign in enumerate(text):
        depth += (sign == "(") - (sign == ")")
        if depth == 0 and sign in places:
            places[sign].append(at)
    for sign, kind in (("*", "cross"), ("/", "nest")):
        if places[sign]:
            at = places[sign][-1]
            return (kind, slow_read(text[:at]), slow_read(text[at + 1:]))
    return slow_read(text[1:-1]) if text[0] == "(" else ("factor", text)


def is_right(words):
    """True if the words can be put together to one name, step by step."""
    text = "".join(words)
    while True:
        shorter = text.replace("(n)", "n").replace("n*n", "n").replace("n/n", "n")
        if shorter == text:
            return text == "n"
        text = shorter


def slow_break(text):
    """The place at which the text is broken, or None: the first word with which nothing can be completed."""
    words = []
    for found in re.finditer("[a-z]+|[^ ]", text):
        words.append("n" if found[0].isalpha() else found[0])
        closing = [")"] * max(0, words.count("(") - words.count(")"))
        if not is_right(words + closing) and not is_right(words + ["n"] + closing):
            return found.start()
    return None if is_right(words) else len(text)


class WriteTest(CrossTest):
    def test_by_hand(self):
        for tree, text in WRITTEN:
            self.same(write_formula(Formula(tree)), text)
            self.same(read_formula(text).tree, tree)
        self.same(write_formula(formula=Formula(A)), "a")
        self.same(read_formula(text="a").tree, A)

    def test_all_trees_are_read_back(self):
        for count in (1, 2, 3, 4):
            for names in ("abcd"[:count], ("x1", "y", "abcdef", "z00")[:count]):
                for tree in every_tree(list(names)):
                    text = write_formula(Formula(tree))
                    self.same(read_formula(text).tree, tree)
                    self.same(slow_read(text), tree)
                    self.assertNotIn(" ", text)

    def test_no_bracket_can_be_left_out(self):
        for tree in every_tree(list("abcd")):
            text = write_formula(Formula(tree))
            for start, end in combinations(range(len(text)), 2):
                if text[start] == "(" and text[end] == ")":
                    rest = text[:start] + text[start + 1:end] + text[end + 1:]
                    depths = [rest[:k].count("(") - rest[:k].count(")") for k in range(len(rest) + 1)]
                    if min(depths) == 0 and "()" not in rest:
                        self.assertNotEqual(slow_read(rest), tree)

    def test_write_terms(self):
        self.same(write_terms(read_formula("a/b*c")), "a + c + a.b + a.c + a.b.c")
        self.same(write_terms(formula=read_formula("x1")), "x1")
        self.same(write_terms(read_formula("b*a")), "b + a + b.a")
        self.same(write_terms(read_formula("(a*b)/c")), "a + b + a.b + a.b.c")


class ReadTest(CrossTest):
    def test_examples(self):
        self.same(write_formula(read_formula("(a / b) * ((c))")), "a/b*c")
        self.refuses(BadFormula(5), read_formula, "a*(b/)")

    def test_spaces_and_brackets(self):
        for text in (" a*b", "a*b ", "a *b", "a* b", "   a   *   b   ", "(a)*b", "(a*b)", "((a)*(b))", "( a ) * ( b )",
                     "(((a*b)))", " ( a*b ) "):
            self.same(read_formula(text).tree, cross(A, B))
        self.same(read_formula("(((((((((((((((((((((((((((((a)))))))))))))))))))))))))))))").tree, A)
        self.same(read_formula("((a/b)/c)").tree, nest(nest(A, B), C))
        self.same(read_formula("abcdef*x00009").factors, ("abcdef", "x00009"))

    def test_where_a_text_breaks_off(self):
        for text, at in (
                ("", 0), (" ", 1), ("   ", 3), ("a*", 2), ("a* ", 3), ("a*   ", 5), ("a/", 2), ("(", 1), ("(  ", 3), ("(a", 2),
                ("(a ", 3), ("(a   ", 5), ("((a)", 4), ("(a*b", 4), ("a a", 2), ("a  b", 3), ("ab a", 3), ("a 1", 2),
                ("a abcdefg", 2), ("a b c", 2), (")", 0), (" )", 1), ("()", 1), ("( )", 2), ("a)", 1), ("a )", 2),
                ("(a))", 3), ("(a) )", 4), ("a(", 1), ("a(b)", 1), ("(a)(b)", 3), ("(a)b", 3), ("(a) b", 4), ("(a)1", 3),
                ("*", 0), ("*a", 0), ("/a", 0), ("  *a", 2), ("a**b", 2), ("a*/b", 2), ("a//b", 2), ("a/*b", 2), ("a* *b", 3),
                ("(*a)", 1), ("(/a)", 1), ("a*)", 2), ("(a*)", 3), ("(a/)", 3), ("a*(b/)", 5), ("(a)*", 4),
                ("1", 0), ("1a", 0), ("a*1", 2), ("a*1b", 2), ("a*(2)", 3), ("abcdefg", 0), ("a*abcdefg", 2),
                ("a*abcdefghijklmn", 2), ("0123456789", 0), ("a1*1a", 3)):
            self.refuses(BadFormula(at), read_formula, text)

    def test_other_signs(self):
        for sign in "ABCZ.+-_,;:!?@#$^&=<>[]{}|~`'\"\\\n" + chr(37):
            self.refuses(BadFormula(0), read_formula, sign)
            self.refuses(BadFormula(1), read_formula, "a" + sign)
            self.refuses(BadFormula(1), read_formula, "a" + sign + "*b")
            self.refuses(BadFormula(2), read_formula, "a*" + sign)
            self.refuses(BadFormula(3), read_formula, "(a)" + sign)
            self.refuses(BadFormula(3), read_formula, "a* " + sign)
            # It ends a name before it, whose own error is due first.
            self.refuses(BadFormula(2), read_formula, "a*1" + sign)
            self.refuses(RepeatedName("a"), read_formula, "a*a" + sign)
            self.refuses(BadFormula(8), read_formula, "a*bcdefg" + sign)

    def test_repeated_and_too_many_names(self):
        for text in ("a*a", "a/a", "a*b*a", "a*(b/a)", "a1*b*a1", "a*a)", "a*a*", "a*(a", "a*a*1"):
            self.refuses(RepeatedName(text.split("*")[0].split("/")[0]), read_formula, text)
        self.refuses(RepeatedName("b"), read_formula, "a*b/b")
        self.same(read_formula("a*b*c*d").factors, ("a", "b", "c", "d"))
        for text in ("a*b*c*d*e", "a/b/c/d/e", "a*b*c*(d*e", "a*b*c*d*e*1", "a*b*c*d*efghij)"):
            self.refuses(TooMany("factors", 4), read_formula, text)
        # A repeated fifth name is repeated, and a wrong one is wrong.
        for name in "abcd":
            self.refuses(RepeatedName(name), read_formula, "a*b*c*d*" + name)
        self.refuses(BadFormula(8), read_formula, "a*b*c*d*1")
        self.refuses(BadFormula(8), read_formula, "a*b*c*d*efghijk")
        self.refuses(BadFormula(8), read_formula, "a*b*c*d e")
        self.refuses(BadFormula(7), read_formula, "a*b*c*d(e")
        self.refuses(BadFormula(8), read_formula, "a*b*c*d*")

    def test_the_first_broken_place_counts(self):
        self.refuses(BadFormula(2), read_formula, "a a*a")
        self.refuses(RepeatedName("a"), read_formula, "a*a a")
        self.refuses(BadFormula(1), read_formula, "a)*a*b*c*d*e")
        self.refuses(BadFormula(4), read_formula, "a*b b*(")

    def test_sixty_signs(self):
        self.same(read_formula("a" + " " * 59).tree, A)
        self.same(read_formula(" " * 57 + "a*b").tree, cross(A, B))
        self.refuses(BadFormula(60), read_formula, " " * 60)
        self.refuses(BadFormula(0), read_formula, "a" * 60)
        for text in ("a" + " " * 60, " " * 61, "a" * 61, ")" * 61, "a" * 2000, "\n" * 61):
            self.refuses(TooMany("signs", 60), read_formula, text)

    def test_all_short_texts(self):
        for count in range(6):
            for signs in product("n()*/ ", repeat=count):
                # Each name is another letter, so no name is repeated.
                text = "".join("abcde"[at] if sign == "n" else sign for at, sign in enumerate(signs))
                at = slow_break(text)
                if at is None:
                    self.same(read_formula(text).tree, slow_read(text.replace(" ", "")))
                else:
                    self.refuses(BadFormula(at), read_formula, text)


class FormulaForTest(CrossTest):
    def found(self, factors, terms):
        made = formula_for(factors, terms)
        self.assertIsInstance(made, Formula)
        self.assertEqual(sorted(made.factors), sorted(factors))
        self.assertEqual({frozenset(term) for term in made.terms()}, {frozenset(term) for term in terms})
        return made

    def test_each_tree_is_found(self):
        for count in (1, 2, 3):
            for tree in every_tree(list("abc"[:count])):
                made = Formula(tree)
                for factors in permutations(made.factors):
                    self.found(list(factors), made.terms())
        for tree in every_tree(list("dbca"))[::9]:
            self.found(list("abcd"), Formula(tree).terms()[::-1])
            self.found(tuple(sorted(factors_of(tree))), tuple(list(term)[::-1] for term in Formula(tree).terms()))

    def test_by_hand(self):
        self.same(formula_for(["a"], [["a"]]).tree, A)
        self.same(formula_for(factors=["a", "b"], terms=[["a"], ["a", "b"]]).tree, nest(A, B))
        self.same(formula_for(["a", "b"], [["b"], ["a", "b"]]).tree, nest(B, A))
        self.found(["b", "a"], [["a"], ["a", "b"], ["b"]])
        self.found(["b", "a"], [("a", "a"), ["b", "a", "b"], ["a", "b"], ["b"], ["b"]])
        self.found(["abcdef", "x1"], [["x1"], ["abcdef", "x1"]])
        self.found(["a", "b"], [["a"], ["b"]] + [["a", "b"]] * 14)

    def test_no_formula(self):
        for factors, terms in (
                ("a", []), ("a", [[]]), ("a", [["a"], []]), ("a", ((),)), ("ab", [["a"]]), ("ab", [["a"], ["b"]]),
                ("ab", [["a", "b"]]), ("ab", [[], ["a"], ["a", "b"]]), ("abc", [["a"], ["a", "b", "c"]]),
                ("abc", [["a"], ["a", "b"], ["a", "c"]]), ("abc", [["a"], ["b"], ["c"], ["a", "b", "c"]]),
                ("abcd", [["a"], ["b"], ["c"], ["d"]]), ("abcd", []), ("ab", [])):
            self.same(formula_for(list(factors), terms), None)

    def test_families_of_two_and_three_factors(self):
        for names in ("ab", "abc"):
            sets = [term for size in range(1, len(names) + 1) for term in combinations(names, size)]
            right = {frozenset(frozenset(term) for term in Formula(tree).terms()) for tree in every_tree(list(names))}
            for count in range(len(sets) + 1):
                for terms in combinations(sets, count):
                    family = frozenset(frozenset(term) for term in terms)
                    self.same(formula_for(names, list(terms)) is None, family not in right)

    def test_wrong_factors(self):
        for terms in ([], [[None]], [["z"]] * 17):
            self.refuses(BadTree(), formula_for, [], terms)
            self.refuses(TooMany("factors", 4), formula_for, ["a", "a", None, "b", "c"], terms)
            self.refuses(RepeatedName("a"), formula_for, ["a", "a", None], terms)
            self.refuses(RepeatedName("a"), formula_for, ["b", "a", "c", "a"], terms)
            for value in ANY_VALUES + ("A", "1a", "abcdefg", "a ", "a*b"):
                self.refuses(BadName(value), formula_for, ["b", value, "b"], terms)
                self.refuses(BadName(value), formula_for, [value], terms)

    def test_wrong_terms(self):
        self.refuses(TooMany("terms", 16), formula_for, ["a"], [["a"]] * 16 + [["z"]])
        self.refuses(TooMany("terms", 16), formula_for, ["a"], [["z"]] * 17)
        self.same(formula_for(["a"], [["a"]] * 16).tree, A)
        for value in ANY_VALUES + ("b", "aa", "A", ["a"], ("a",)):
            self.refuses(UnknownName(value), formula_for, ["a"], [[value, "z"]])
            self.refuses(UnknownName(value), formula_for, ["a", "c"], [[], ["a"], ["c", "a", value], ["z"]])

    def test_arguments_stay(self):
        factors, terms = ["b", "a"], [["a", "a"], ["b", "a"]]
        formula_for(factors, terms)
        self.same((factors, terms), (["b", "a"], [["a", "a"], ["b", "a"]]))
