from fractions import Fraction
from itertools import product

from crossmeans.anova import Anova
from crossmeans.confound import effect_place
from crossmeans.errors import BadName, NoPlots, NotOrthogonal, NotPlaced, RepeatedName, TooMany, UnlikePlots
from crossmeans.partings import Parting
from crossmeans.ratios import ratio_text
from crossmeans.seek import split_plot
from crossmeans.strata import Strata
from crossmeans.tables import Table
from tests.helpers import (ANY_VALUES, BIG, CrossTest, dot, every_parting, fraction, numbers, pair_of, parting,
                           partings_of, slow_closure, slow_marks, slow_orthogonal, slow_pieces)
from tests.test_strata import PAIRS

BAD_NAMES = [value for value in ANY_VALUES if value != "x"] + ["A", "1a", "a b", "abcdefg", "_a", "a\n", ("a",), ["a"]]
LINE = Anova([("b", Parting([0, 0, 1, 1]))], [("t", Parting([0, 1, 0, 1]))])


def pairs_of(text):
    """Pairs of a name and a parting: `b=aabb c=abab`."""
    return [(name, parting(signs)) for name, signs in (word.split("=") for word in text.split())]


def slow_lines(blocks, effects, cells):
    """The tuples (label, effect, dimension, square) of all lines, or None if an effect is not placed."""
    def members_of(listed, bottom):
        names = slow_closure([made for _, made in listed], True, bottom)
        return [Parting(entry) for entry in names]

    def labels_of(members, listed):
        labels = []
        for at, member in enumerate(members):
            own = [name for name, made in listed if made.names == member.names]
            usual = "(top)" if member.many == 1 else "(plots)" if member.many == member.plots else f"(join {at})"
            labels.append("=".join(own) or usual)
        return labels

    def sizes_of(members):
        plots = members[0].plots
        units = [[int(plot == other) for other in range(plots)] for plot in range(plots)]
        split = [slow_pieces(members, unit) for unit in units]
        return [sum(split[plot][at][plot] for plot in range(plots)) for at in range(len(members))]

    members, others = members_of(blocks, True), members_of(effects, False) if effects else []
    placed = {}
    for at, (member, size) in enumerate(zip(others, sizes_of(others) if others else [])):
        parts = [slow_pieces(others, mark)[at] for mark in slow_marks([member])]
        places = [k for k in range(len(members)) if all(slow_pieces(members, part)[k] == part for part in parts)]
        if size and not places:
            return None
        if size:
            placed[at] = places[0]
    squares = [dot(part, part) for part in slow_pieces(members, cells)]
    effect_squares = [dot(part, part) for part in slow_pieces(others, cells)] if others else []
    lines = []
    for k, (label, size) in enumerate(zip(labels_of(members, blocks), sizes_of(members))):
        own = [at for at in sorted(placed) if placed[at] == k]
        for at in own:
            lines.append((label, labels_of(others, effects)[at], sizes_of(others)[at], effect_squares[at]))
            size -= lines[-1][2]
        lines.append((label, "(rest)", size, squares[k] - sum(effect_squares[at] for at in own)))
    return lines


class LineTest(CrossTest):
    def check(self, blocks, effects, seed=0):
        table = Table([(number, 1 + seed % 3) for number in numbers(seed, blocks[0][1].plots, -9, 9)])
        expected = slow_lines(blocks, effects, [fraction(cell) for cell in table.cells])
        if expected is None:
            with self.assertRaises(NotPlaced):
                Anova(blocks, effects)
            return False
        made = Anova(blocks, effects)
        self.same(made.plan(), [(label, effect, int(size)) for label, effect, size, _ in expected])
        lines = [(label, effect, int(size), pair_of(square), pair_of(square / size) if size else None)
                 for label, effect, size, square in expected]
        self.same(made.lines(table), lines)
        texts = [f"{label} {effect} {size} {ratio_text(square)} {'-' if mean is None else ratio_text(mean)}"
                 for label, effect, size, square, mean in lines]
        self.same(made.report(table), texts + [f"total {made.plots} {ratio_text(table.square())}"])
        self.assertEqual(sum(size for _, _, size, _ in expected), made.plots)
        self.assertEqual(sum(square for _, _, _, square in expected), fraction(table.square()))
        return True

    def test_example(self):
        self.same(LINE.report(Table([1, 2, 3, 6])),
                  ["(top) (top) 1 36 36", "(top) (rest) 0 0 -", "b (rest) 1 9 9", "(plots) t 1 4 4",
                   "(plots) (rest) 1 1 1", "total 4 50"])

    def test_lines_and_plans(self):
        cases = ["b=aabb", "b=aabb c=abab", "b=aaaa", "b=abcd", "b=aabb c=abab d=abba", "b=aaab", "b=a", "b=aabbcc"]
        pairs = [[("t", one), ("u", other)] for one, other in product(every_parting(4)[::4], repeat=2)
                 if slow_orthogonal(one, other)]
        for seed, text in enumerate(cases):
            blocks = pairs_of(text)
            self.assertTrue(self.check(blocks, [], seed))
            self.assertTrue(self.check(blocks, (), seed))
            if blocks[0][1].plots == 4:
                found = [self.check(blocks, [("t", made)], seed) for made in every_parting(4)]
                self.assertTrue(any(found[1:]))
                for effects in pairs[seed % 3::3]:
                    self.check(blocks, effects, seed)

    def test_designs(self):
        for sizes in ((2, 2, 2), (1, 2, 2), (2, 2, 1)):
            strata, treatments = split_plot(*sizes)
            blocks = list(zip(("b", "w"), strata))
            effects = list(zip(("v", "s", "vs"), treatments))
            self.assertTrue(self.check(blocks, effects, sum(sizes)))
        self.assertTrue(self.check(pairs_of("r=aabbcc"), pairs_of("t=ababab u=aaaabb")))
        self.assertFalse(self.check(pairs_of("r=aabbcc"), pairs_of("t=abacbc")))

    def test_effects_of_dimension_zero(self):
        effects = pairs_of("a=aabb b=abab c=abba d=abcd")
        made = Anova(pairs_of("p=aaaa"), effects)
        self.same(made.effect_labels, ("(top)", "a", "b", "c", "d"))
        self.same([effect for _, effect, _ in made.plan()], ["(top)", "(rest)", "a", "b", "c", "(rest)"])
        self.check(pairs_of("p=aaaa"), effects)
        # Without its joins the same member has dimension 3 and is a line.
        self.same([line for line in Anova(pairs_of("p=aaaa"), effects[3:]).plan()],
                  [("p", "(top)", 1), ("p", "(rest)", 0), ("(plots)", "d", 3), ("(plots)", "(rest)", 0)])

    def test_a_placed_effect_that_the_stratum_does_not_hold(self):
        # The effect d is split by b; its piece behind b lies in the plots, although b itself is a block.
        made = Anova(pairs_of("b=aabb"), pairs_of("t=aabb d=abcd"))
        self.same(effect_place(Strata([parting("aabb")]), parting("abcd")), None)
        self.same(made.plan(), [("(top)", "(top)", 1), ("(top)", "(rest)", 0), ("b", "t", 1), ("b", "(rest)", 0),
                                ("(plots)", "d", 2), ("(plots)", "(rest)", 0)])

    def test_pairs_as_tuples_and_as_lists(self):
        blocks, effects = pairs_of("b=aabb"), pairs_of("t=abab")
        for kind, other in product((tuple, list), repeat=2):
            made = Anova(kind([other(pair) for pair in blocks]), kind([other(pair) for pair in effects]))
            self.same(made.plan(), LINE.plan())
        self.same(Anova(blocks=blocks, effects=effects).plan(), LINE.plan())
        self.same(Anova(blocks).effect_labels, ())
        self.same(Anova(blocks=blocks).plan(), [("(top)", "(rest)", 1), ("b", "(rest)", 1), ("(plots)", "(rest)", 2)])

    def test_by_keyword(self):
        self.same(LINE.lines(table=Table([1, 2, 3, 6]))[2:4], [("b", "(rest)", 1, (9, 1), (9, 1)),
                                                              ("(plots)", "t", 1, (4, 1), (4, 1))])
        self.same(LINE.report(table=Table([1, 2, 3, (1, 2)]))[-1], "total 4 57/4")

    def test_unlike_counts(self):
        for call in (LINE.lines, LINE.report):
            self.refuses(UnlikePlots(4, 3), call, Table([1, 2, 3]))


class LabelTest(CrossTest):
    def test_labels(self):
        made = Anova(pairs_of("b=aabb c=abab b2=xxyy one=aaaa c2=xyxy all=abcd"),
                     pairs_of("t=abab u=xyxy v=aabb w=aaaa"))
        self.same(made.labels, ("one", "b=b2", "c=c2", "all"))
        self.same(made.effect_labels, ("w", "v", "t=u"))
        self.same(made.plots, 4)
        self.same(Anova(pairs_of("b=aabb c=abab")).labels, ("(top)", "b", "c", "(plots)"))
        self.same(LINE.labels, ("(top)", "b", "(plots)"))
        self.same(LINE.effect_labels, ("(top)", "t"))

    def test_joins(self):
        blocks = pairs_of("r=aabbccdd c=abbaceec")
        made = Anova(blocks)
        members = slow_closure([one for _, one in blocks], True, True)
        self.assertEqual(len(members), len(made.labels))
        joined = members.index((0, 0, 0, 0, 4, 4, 4, 4))
        self.same(made.labels[joined], f"(join {joined})")
        self.same(made.report(Table([1] * 8))[joined], f"(join {joined}) (rest) 1 0 0")
        effects = Anova(pairs_of("p=aaaaaaaa"), blocks).effect_labels
        self.same(effects, ("(top)", "(join 1)", "r", "c"))

    def test_one_plot(self):
        self.same(Anova(pairs_of("b=x")).labels, ("b",))
        self.same(Anova(pairs_of("b=x"), pairs_of("t=x u=x")).effect_labels, ("t=u",))
        self.same(Anova(pairs_of("b=x"), pairs_of("t=x")).report(Table([(1, 2)])),
                  ["b t 1 1/4 1/4", "b (rest) 0 0 -", "total 1 1/4"])

    def test_top_comes_before_plots(self):
        self.same(Anova(pairs_of("b=ab")).labels, ("(top)", "b"))
        self.same(Anova(pairs_of("b=aa")).labels, ("b", "(plots)"))


class WrongTest(CrossTest):
    def test_wrong_names(self):
        made = parting("ab")
        for name in BAD_NAMES:
            self.refuses(BadName(name), Anova, [("x", made), (name, made), ("x", made)], [(None, parting("a"))])
            self.refuses(BadName(name), Anova, [["x", made]], [["y", parting("a")], [name, made], ["x", made]])
        self.refuses(RepeatedName("x"), Anova, [("x", made), ("y", made), ("x", made), ("", made)])
        self.refuses(RepeatedName("x"), Anova, [("x", made)], [("y", made), ("x", parting("a")), ("", made)])
        self.refuses(RepeatedName("y"), Anova, [("x", made)], [("y", made), ("y", made), ("x", made)])

    def test_the_error_has_the_very_value(self):
        name = ["x"]
        try:
            Anova([(name, parting("a"))])
        except BadName as error:
            self.assertIs(error.name, name)

    def test_counts(self):
        made = parting("ab")
        named = [(f"n{k}", made) for k in range(17)]
        for blocks in ([], ()):
            self.refuses(NoPlots(), Anova, blocks, [(None, made)] * 17)
        self.refuses(TooMany("partings", 16), Anova, [(None, made)] * 17, [(None, made)] * 17)
        self.refuses(TooMany("partings", 16), Anova, [("x", made)], [(None, made)] * 17)
        self.refuses(BadName(None), Anova, [("x", made), (None, made)], [(None, made)] * 17)
        self.refuses(RepeatedName("x"), Anova, [("x", made)] * 2, named)
        self.same(Anova(named[:16]).labels, ("(top)", "=".join(name for name, _ in named[:16])))
        self.same(len(Anova([("x", made)], named[:16]).effect_labels), 2)

    def test_unlike_counts(self):
        two, three, four = parting("ab"), parting("abc"), parting("abcd")
        self.refuses(UnlikePlots(2, 3), Anova, [("a", two), ("b", three), ("c", four)], [("d", four)])
        self.refuses(UnlikePlots(2, 4), Anova, [("a", two), ("b", two)], [("c", two), ("d", four), ("e", three)])
        self.refuses(UnlikePlots(2, 3), Anova, [("a", two), ("b", two)], [("c", three), ("d", four)])
        long = [(f"n{k}", made) for k, made in enumerate(PAIRS)]
        self.refuses(UnlikePlots(10, 2), Anova, long, [("x", two)])
        self.refuses(UnlikePlots(2, 10), Anova, [("x", two)], long)

    def test_order_of_the_other_errors(self):
        pairs = [(f"n{k}", made) for k, made in enumerate(PAIRS)]
        short = [(f"s{k}", made) for k, made in enumerate(PAIRS[:3])]
        one = Parting.one(10)
        broken = [("x", parting("aabaaaaaaa")), ("y", one), ("z", parting("abbaaaaaaa"))]
        self.refuses(TooMany("members", 16), Anova, pairs, broken)
        # Too many effect members come before blocks that are not orthogonal.
        seven = [Parting([0 if plot in (k, k + 1) else plot + 1 for plot in range(10)]) for k in range(7)]
        effects = [(f"e{k}", made) for k, made in enumerate(seven)]
        self.refuses(TooMany("members", 16), Anova, broken, effects)
        self.refuses(NotOrthogonal(0, 2), Anova, broken, [("u", one), ("v", broken[0][1]), ("w", broken[2][1])])
        self.refuses(NotOrthogonal(1, 2), Anova, [("p", one)], [("u", one), ("v", broken[0][1]), ("w", broken[2][1])])
        self.assertEqual(len(Anova(short).labels), len(slow_closure(PAIRS[:3], True, True)))

    def test_not_placed(self):
        self.refuses(NotPlaced(1), Anova, pairs_of("b=aabb"), pairs_of("t=abcc"))
        self.refuses(NotPlaced(1), Anova, pairs_of("b=aabb"), pairs_of("t=abcd"))
        # The index counts in the closure order of the effect members, and not in the list.
        self.refuses(NotPlaced(2), Anova, pairs_of("b=aabbcc"), pairs_of("t=abcdef u=aaaabb"))
        self.refuses(NotPlaced(2), Anova, pairs_of("b=aabbcc"), pairs_of("u=aaaabb t=abcdef"))
        # Of several such members the least one is told.
        self.refuses(NotPlaced(1), Anova, pairs_of("b=aaab"), pairs_of("t=aabb u=abab"))
        self.refuses(NotPlaced(1), Anova, pairs_of("b=aaab"), pairs_of("t=abcd u=abab v=aabb"))

    def test_nothing_is_shared(self):
        blocks, effects = [["b", parting("aabb")]], [["t", parting("abab")]]
        made = Anova(blocks, effects)
        blocks[0][0] = "c"
        blocks.append(("d", parting("aaab")))
        effects[0][1] = parting("a")
        effects.clear()
        self.same(made.plan(), LINE.plan())
        for call in (made.plan, lambda: made.lines(Table([1, 2, 3, 4])), lambda: made.report(Table([1, 2, 3, 4]))):
            kept = call()
            call().clear()
            self.same(call(), kept)
        self.assertIs(type(made.labels), tuple)
        self.assertIs(type(made.effect_labels), tuple)

    def test_long_numbers(self):
        table = Table([BIG, (1, BIG), -BIG, (BIG, 2)])
        total = sum((Fraction(*line[3]) for line in LINE.lines(table)), Fraction(0))
        self.assertEqual(pair_of(total), table.square())

    def test_arguments_stay(self):
        blocks, effects = pairs_of("b=aabb"), [["t", parting("abab")]]
        Anova(blocks, effects).report(Table([1, 2, 3, 4]))
        self.assertEqual((blocks[0][0], len(blocks), effects[0][0], len(effects)), ("b", 1, "t", 1))
        self.assertEqual(partings_of(["aabb"])[0].names, blocks[0][1].names)
