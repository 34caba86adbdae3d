from crossmeans.errors import BadLabel, BadLots, BadPlot, BadText, NoPlots, TooMany, UnlikePlots
from crossmeans.partings import MOST_PLOTS, Parting, all_partings, parting_text, read_parting
from tests.helpers import ANY_VALUES, BIG, NO_WHOLE, CrossTest, every_parting, lots_as_sets, parting, slow_join


class LabelTest(CrossTest):
    def test_limit(self):
        self.same(MOST_PLOTS, 16)

    def test_examples(self):
        self.same(Parting(["x", 7, "x", 5]).names, (0, 1, 0, 3))
        self.same((Parting([0, 0, 1, 2]) | Parting([0, 1, 1, 2])).lots, ((0, 1, 2), (3,)))
        self.refuses(BadLots(2), Parting.from_lots, 4, [[0, 1], [3]])

    def test_properties(self):
        made = Parting([5, "b", 5, "", "b", -1])
        self.same(made.plots, 6)
        self.same(made.many, 4)
        self.same(made.names, (0, 1, 0, 3, 1, 5))
        self.same(made.lots, ((0, 2), (1, 4), (3,), (5,)))
        self.same(made.sizes, (2, 2, 1, 1))

    def test_whole_numbers_and_texts_are_never_equal(self):
        self.same(Parting([1, "1", 1, "1"]).names, (0, 1, 0, 1))
        self.same(Parting(["", 0, "", "0"]).names, (0, 1, 0, 3))
        self.same(Parting([" ", ""]).names, (0, 1))

    def test_numbers_of_forty_digits(self):
        self.same(Parting([BIG, -BIG, BIG, BIG + 1]).names, (0, 1, 0, 3))

    def test_a_tuple_of_labels(self):
        self.same(Parting((3, 3)).names, (0, 0))

    def test_counts(self):
        self.refuses(NoPlots(), Parting, [])
        self.refuses(NoPlots(), Parting, ())
        self.same(Parting([9]).lots, ((0,),))
        self.same(Parting([0] * 16).sizes, (16,))
        self.refuses(TooMany("plots", 16), Parting, [0] * 17)
        self.refuses(TooMany("plots", 16), Parting, [None] * 17)

    def test_wrong_labels(self):
        for value in NO_WHOLE:
            if not isinstance(value, str):
                self.refuses(BadLabel(0), Parting, [value])
                self.refuses(BadLabel(2), Parting, [1, "a", value, value])

    def test_a_later_change_of_the_labels_has_no_effect(self):
        labels = [0, 1, 0]
        made = Parting(labels)
        labels[0] = 1
        labels.append(4)
        self.same(made.names, (0, 1, 0))
        self.same(labels, [1, 1, 0, 4])

    def test_equality(self):
        self.assertTrue(Parting([0, 1, 0]) == Parting(["a", "b", "a"]))
        self.assertFalse(Parting([0, 1, 0]) != Parting(["a", "b", "a"]))
        self.assertFalse(Parting([0, 1, 0]) == Parting([0, 1, 1]))
        self.assertTrue(Parting([0, 1, 0]) != Parting([0, 1, 1]))

    def test_equality_of_unlike_counts_raises_nothing(self):
        self.same(Parting([0, 0]) == Parting([0, 0, 0]), False)
        self.same(Parting([0, 0]) != Parting([0, 0, 0]), True)

    def test_not_equal_to_other_kinds(self):
        made = Parting([0, 1])
        for value in ANY_VALUES + (made.names, made.lots, list(made.names)):
            self.same(made == value, False)
            self.same(value == made, False)
            self.same(made != value, True)


class MethodTest(CrossTest):
    def test_lot_of(self):
        made = parting("abab")
        self.same([made.lot_of(plot) for plot in range(4)], [(0, 2), (1, 3), (0, 2), (1, 3)])
        self.same(made.lot_of(plot=1), (1, 3))

    def test_together(self):
        made = parting("abab")
        self.same(made.together(0, 2), True)
        self.same(made.together(0, 1), False)
        self.same(made.together(plot=3, other=3), True)

    def test_wrong_plots(self):
        made = parting("abab")
        for value in NO_WHOLE + (-1, 4, BIG, -BIG):
            self.refuses(BadPlot(value), made.lot_of, value)
            self.refuses(BadPlot(value), made.together, value, 17)
            self.refuses(BadPlot(value), made.together, 1, value)

    def test_the_error_has_the_very_value(self):
        value = [1]
        try:
            parting("ab").lot_of(value)
        except BadPlot as error:
            self.assertIs(error.plot, value)

    def test_is_uniform(self):
        self.same(parting("abab").is_uniform(), True)
        self.same(parting("aba").is_uniform(), False)
        self.same(parting("a").is_uniform(), True)
        self.same(parting("abc").is_uniform(), True)

    def test_iteration(self):
        made = parting("abca")
        self.same(list(made), [(0, 3), (1,), (2,)])
        self.same([lot for lot in made], list(made.lots))

    def test_contains(self):
        made = parting("aab")
        self.same((0, 1) in made, True)
        self.same((2,) in made, True)
        for value in ((1, 0), (0,), (0, 1, 2), [0, 1], [2], 0, 2, -1, None, True, False, "", "0", "aab", (), [],
                      ((0, 1),), (0, [1]), (0, None), ("0", "1"), [(0, 1)]):
            self.same(value in made, False)


class MakerTest(CrossTest):
    def test_one_and_single(self):
        self.same(Parting.one(3).lots, ((0, 1, 2),))
        self.same(Parting.single(3).lots, ((0,), (1,), (2,)))
        self.same(Parting.one(16).sizes, (16,))
        self.same(Parting.single(16).many, 16)
        self.assertTrue(Parting.one(1) == Parting.single(1))
        self.same(Parting.one(plots=2).names, (0, 0))

    def test_counts(self):
        for make in (Parting.one, Parting.single):
            for plots in (0, -1, -BIG):
                self.refuses(NoPlots(), make, plots)
            for plots in (17, BIG):
                self.refuses(TooMany("plots", 16), make, plots)

    def test_from_lots(self):
        self.same(Parting.from_lots(4, [[3, 1], (2,), [0]]).lots, ((0,), (1, 3), (2,)))
        self.same(Parting.from_lots(plots=2, lots=((1, 0),)).lots, ((0, 1),))
        for made in every_parting(4):
            turned = [list(reversed(lot)) for lot in reversed(made.lots)]
            self.assertTrue(Parting.from_lots(4, turned) == made)

    def test_from_lots_counts_come_first(self):
        self.refuses(NoPlots(), Parting.from_lots, 0, [[]])
        self.refuses(TooMany("plots", 16), Parting.from_lots, 17, [[]])

    def test_from_lots_with_wrong_lists(self):
        self.refuses(BadLots(0), Parting.from_lots, 3, [])
        self.refuses(BadLots(0), Parting.from_lots, 1, [[]])
        self.refuses(BadLots(1), Parting.from_lots, 3, [[0, 1], [], [2]])
        self.refuses(BadLots(1), Parting.from_lots, 3, [[0, 1], [2, 2]])
        self.refuses(BadLots(0), Parting.from_lots, 3, [[0, 1, 1], [2]])
        self.refuses(BadLots(2), Parting.from_lots, 3, [[0], [1], [0, 2]])
        self.refuses(BadLots(1), Parting.from_lots, 3, [[0], [3], []])
        self.refuses(BadLots(0), Parting.from_lots, 3, [[-1], [0, 1, 2]])
        self.refuses(BadLots(3), Parting.from_lots, 4, [[0], [1], [2]])
        self.refuses(BadLots(3), Parting.from_lots, 3, [[0], [1], [2], []])

    def test_from_lots_with_values_of_every_kind(self):
        for value in NO_WHOLE + (-1, 3, BIG):
            self.refuses(BadLots(1), Parting.from_lots, 3, [[0, 1], [2, value]])
            self.refuses(BadLots(0), Parting.from_lots, 3, [[value]])

    def test_from_lots_copies(self):
        lots = [[0, 1], [2]]
        made = Parting.from_lots(3, lots)
        lots[0].append(2)
        self.same(made.lots, ((0, 1), (2,)))
        self.same(lots, [[0, 1, 2], [2]])


class OperatorTest(CrossTest):
    def test_meet_and_join_of_all_pairs(self):
        listed = every_parting(4)
        for first in listed:
            for second in listed:
                met = {left & right for left in lots_as_sets(first) for right in lots_as_sets(second)} - {frozenset()}
                self.assertEqual(lots_as_sets(first & second), met)
                self.same((first | second).names, slow_join(first, second))

    def test_join_over_many_links(self):
        first = parting("aabbccddeeffgghh")
        second = parting("abbccddeeffgghhi")
        self.same((first | second).lots, (tuple(range(16)),))
        self.same((first & second).many, 16)

    def test_join_takes_the_least_names(self):
        self.same((parting("abcbc") | parting("abccd")).names, (0, 1, 1, 1, 1))
        self.same((parting("abca") | parting("abcb")).names, (0, 0, 2, 0))

    def test_unlike_counts(self):
        self.refuses(UnlikePlots(2, 3), lambda: parting("ab") & parting("abc"))
        self.refuses(UnlikePlots(3, 2), lambda: parting("abc") | parting("ab"))

    def test_operands_stay_as_they_were(self):
        first, second = parting("aabc"), parting("abbc")
        first & second, first | second
        self.same(first.names, (0, 0, 2, 3))
        self.same(second.names, (0, 1, 1, 3))


class TextTest(CrossTest):
    def test_written_form(self):
        self.same(parting_text(parting("abab")), "0 2|1 3")
        self.same(parting_text(Parting([0])), "0")
        self.same(parting_text(Parting.one(12)), "0 1 2 3 4 5 6 7 8 9 10 11")
        self.same(parting_text(parting=Parting.single(2)), "0|1")

    def test_examples(self):
        self.same(read_parting("0 2|1").names, (0, 1, 0))
        self.refuses(BadText("1|0 2"), read_parting, "1|0 2")

    def test_each_reads_as_it_is_written(self):
        for made in every_parting(4) + [Parting.one(16), Parting.single(16), parting("abcdabcdabcdabcd")]:
            self.assertTrue(read_parting(parting_text(made)) == made)

    def test_texts_that_are_no_written_form(self):
        for text in ("", " ", "|", "1", "0 ", " 0", "0|", "|0", "0  1", "0||1", "00", "0 01", "+0", "-0", "0 -1", "a",
                     "0 a", "0\n", "\n0", "0|1\n", "0\n1", "1 0", "1|0", "0 2", "0|2", "0 0", "0|0", "0 1|1",
                     "0 2 1", "0 1|3", "0a", "a0", "0x", "0 1x", "0 x1|2", "0,1", "0 | 1", "0 1 2|", "0.0", "0 1e0", "(0)", "0_1", "16",
                     "0 " * 40, "0" * 2000, "9" * 2000, " ".join(["0"] * 900)):
            self.refuses(BadText(text), read_parting, text)

    def test_more_than_sixteen_plots(self):
        self.same(read_parting(" ".join([str(plot) for plot in range(16)])).plots, 16)
        for sign in (" ", "|"):
            text = sign.join([str(plot) for plot in range(17)])
            self.refuses(BadText(text), read_parting, text)

    def test_unequal_texts_never_read(self):
        right = {parting_text(made) for made in every_parting(1) + every_parting(2) + every_parting(3)}
        texts = [""]
        for _ in range(5):
            texts = [text + sign for text in texts for sign in "012 |"]
            for text in texts:
                if text in right:
                    self.same(parting_text(read_parting(text)), text)
                else:
                    self.refuses(BadText(text), read_parting, text)


class AllTest(CrossTest):
    def test_all_partings(self):
        for plots, count in ((1, 1), (2, 2), (3, 5), (4, 15), (5, 52)):
            listed = all_partings(plots)
            self.assertEqual(len(listed), count)
            self.same([made.names for made in listed], [made.names for made in every_parting(plots)])
            self.assertIs(type(listed), list)

    def test_counts(self):
        self.refuses(NoPlots(), all_partings, 0)
        self.refuses(NoPlots(), all_partings, plots=-BIG)
        for plots in (6, 16):
            self.refuses(TooMany("plots", 5), all_partings, plots)
        for plots in (17, BIG):
            self.refuses(TooMany("plots", 16), all_partings, plots)

    def test_each_list_is_new(self):
        first = all_partings(3)
        first.clear()
        self.assertEqual(len(all_partings(3)), 5)
