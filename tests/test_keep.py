from itertools import product

from crossmeans.errors import (BadLabel, BadName, BadNumber, BadPlot, BadShape, CrossError, NoPlots, NothingToUndo,
                               NotOrthogonal, RepeatedName, TooMany, UnknownName)
from crossmeans.keep import Book
from crossmeans.meetings import pair_breaks
from crossmeans.orders import order_paper
from crossmeans.partings import Parting
from crossmeans.strata import Strata
from crossmeans.tables import Table
from tests.helpers import ANY_VALUES, BIG, NO_NUMBER, NO_WHOLE, CrossTest, numbers

NO_LABEL = [value for value in ANY_VALUES if not isinstance(value, (int, str))] + [True, False]
BAD_NAMES = ANY_VALUES + ("A", "1a", "a b", "abcdefg", "_a", ("a",), ["a"])
ROWS = [(["x", 1], 5), (["x", 2], 3), (["y", 1], 4)]


def book():
    return Book(["a", "b"], ROWS)


def state_of(made):
    """All that a Book tells but `edits`; an error counts as an answer."""
    names = made.names
    labels = ("x", "y", "1", 1, 2, -1, BIG, "")
    questions = [made.rows_now, lambda: list(made), lambda: made.table().cells, made.breaks, made.is_orthogonal,
                 made.squares, made.unlike_orders]
    questions += [lambda name=name: made.parting(name).names for name in names]
    questions += [lambda name=name, label=label: made.lot_size(name, label) for name, label in product(names, labels)]
    return repr([names, made.plots] + [answer_of(question) for question in questions])


def answer_of(question):
    try:
        return question()
    except CrossError as error:
        return (type(error).__name__, vars(error))


class MakeTest(CrossTest):
    def test_example(self):
        made = Book(["a", "b"], [(["x", 1], 5), (["x", 2], 3), (["y", 1], 4)])
        first = made.is_orthogonal()
        made.add_plot(["y", 2], (1, 2))
        self.same((first, made.is_orthogonal(), made.squares()),
                  (False, True, [(625, 16), (49, 16), (121, 16), (9, 16)]))

    def test_properties(self):
        made = Book(names=("a", "b2"), rows=[[("x", 1), (2, -4)], (["", -3], 7)])
        self.same((made.names, made.plots, made.edits), (("a", "b2"), 2, 0))
        self.same(made.rows_now(), [(("x", 1), (-1, 2)), (("", -3), (7, 1))])
        self.same(list(made), made.rows_now())
        self.same(Book.MOST_NAMES, 5)
        self.same(Book(list("abcde"), [([0] * 5, 0)] * 16).plots, 16)

    def test_wrong_names(self):
        for names in ([], ()):
            self.refuses(BadName(""), Book, names, [])
        self.refuses(TooMany("names", 5), Book, [None] * 6, [])
        self.refuses(TooMany("names", 5), Book, ["a"] * 100, [])
        for name in BAD_NAMES:
            self.refuses(BadName(name), Book, ["a", name, "a"], [])
            self.refuses(BadName(name), Book, (name,), [([0], None)])
        self.refuses(RepeatedName("a"), Book, ["a", "b", "a", "A"], [])

    def test_the_error_has_the_very_value(self):
        name = ["a"]
        for call in (lambda: Book([name], []), lambda: book().parting(name), lambda: book().relabel(0, name, 1)):
            try:
                call()
            except (BadName, UnknownName) as error:
                self.assertIs(error.name, name)

    def test_wrong_rows(self):
        for rows in ([], ()):
            self.refuses(NoPlots(), Book, ["a"], rows)
        self.refuses(TooMany("plots", 16), Book, ["a"], [([], None)] * 17)
        for labels in ([], ["x"], ["x", "y", "z"], [None] * 3, ()):
            self.refuses(BadShape(), Book, ["a", "b"], [(["x", "y"], 1), (labels, None), ([None, 0], 1)])
        for value in NO_LABEL:
            self.refuses(BadLabel(1), Book, ["a", "b"], [(["x", "y"], 1), (["x", value], None)])
            self.refuses(BadLabel(0), Book, ["a", "b"], [([value, value], 1), (["x"], None)])
        for value in NO_NUMBER:
            self.refuses(BadNumber(0), Book, ["a"], [(["x"], 1), (["x"], value), ([], 1)])

    def test_nothing_is_shared(self):
        names, rows = ["a"], [[["x"], 1], [["y"], (1, 2)]]
        made = Book(names, rows)
        names[0] = "b"
        rows[0][0][0] = "z"
        rows[1][1] = 5
        rows.clear()
        self.same((made.names, made.rows_now()), (("a",), [(("x",), (1, 1)), (("y",), (1, 2))]))
        labels = ["z"]
        made.add_plot(labels, 3)
        labels[0] = None
        self.same(made.rows_now()[2], (("z",), (3, 1)))
        made.rows_now().clear()
        made.breaks().append(None)
        made.squares().clear()
        self.same(made.plots, 3)
        self.same(len(made.rows_now()), 3)
        self.same(made.breaks(), [])

    def test_iteration(self):
        made = book()
        self.same([row for row in made], made.rows_now())
        made.drop(0)
        self.same(list(made), [(("x", 2), (3, 1)), (("y", 1), (4, 1))])


class EditTest(CrossTest):
    def test_put(self):
        made = book()
        self.same(made.put(1, (2, -4)), None)
        self.same(made.rows_now(), [(("x", 1), (5, 1)), (("x", 2), (-1, 2)), (("y", 1), (4, 1))])
        made.put(plot=2, number=0)
        self.same(made.table().cells, ((5, 1), (-1, 2), (0, 1)))
        self.same(made.edits, 2)

    def test_relabel(self):
        made = book()
        self.same(made.relabel(1, "a", "y"), None)
        self.same(made.rows_now(), [(("x", 1), (5, 1)), (("y", 2), (3, 1)), (("y", 1), (4, 1))])
        made.relabel(plot=1, name="b", label="1")
        self.same(made.parting("a").names, (0, 1, 1))
        self.same(made.parting("b").names, (0, 1, 0))
        made.relabel(1, "b", 1)
        self.same(made.parting("b").names, (0, 0, 0))

    def test_swap(self):
        made = book()
        self.same(made.swap(0, 2), None)
        self.same(made.rows_now(), [(("y", 1), (4, 1)), (("x", 2), (3, 1)), (("x", 1), (5, 1))])
        made.swap(plot=1, other=0)
        self.same(made.rows_now(), [(("x", 2), (3, 1)), (("y", 1), (4, 1)), (("x", 1), (5, 1))])

    def test_add_and_drop(self):
        made = book()
        self.same(made.add_plot(("z", -7), (1, 3)), None)
        self.same((made.plots, made.rows_now()[3]), (4, (("z", -7), (1, 3))))
        self.same(made.drop(1), None)
        self.same(made.rows_now(), [(("x", 1), (5, 1)), (("y", 1), (4, 1)), (("z", -7), (1, 3))])
        made.add_plot(labels=["x", 1], number=2)
        made.drop(plot=3)
        made.drop(0)
        self.same((made.plots, made.edits), (2, 5))
        self.same(made.parting("a").plots, 2)

    def test_refused_edits(self):
        made = book()
        before = state_of(made)
        for value in NO_WHOLE + (-1, 3, BIG, -BIG):
            self.refuses(BadPlot(value), made.put, value, None)
            self.refuses(BadPlot(value), made.relabel, value, "c", None)
            self.refuses(BadPlot(value), made.swap, value, None)
            self.refuses(BadPlot(value), made.swap, 0, value)
            self.refuses(BadPlot(value), made.drop, value)
        for value in NO_NUMBER:
            self.refuses(BadNumber(0), made.put, 2, value)
            self.refuses(BadNumber(0), made.add_plot, ["x", 1], value)
        for value in BAD_NAMES + ("c", "ab", ""):
            self.refuses(UnknownName(value), made.relabel, 0, value, None)
        for value in NO_LABEL:
            self.refuses(BadLabel(0), made.relabel, 0, "b", value)
            self.refuses(BadLabel(1), made.add_plot, ["x", value], None)
            self.refuses(BadLabel(0), made.add_plot, [value, value], None)
        for labels in ([], ["x"], [None] * 3, ("x", 1, 2)):
            self.refuses(BadShape(), made.add_plot, labels, None)
        self.refuses(NothingToUndo(), made.undo)
        self.same((state_of(made), made.edits), (before, 0))

    def test_limits(self):
        made = Book(["a"], [([0], 0)])
        self.refuses(BadPlot(1), made.drop, 1)
        self.refuses(NoPlots(), made.drop, 0)
        self.same(made.edits, 0)
        for number in range(15):
            made.add_plot([number], number)
        self.refuses(BadShape(), made.add_plot, [], None)
        self.refuses(BadLabel(0), made.add_plot, [None], None)
        self.refuses(BadNumber(0), made.add_plot, [0], None)
        self.refuses(TooMany("plots", 16), made.add_plot, [0], 0)
        self.same((made.plots, made.edits), (16, 15))
        made.drop(15)
        made.add_plot(["last"], 1)
        self.same(made.rows_now()[15], (("last",), (1, 1)))

    def test_edits_that_change_nothing_are_edits(self):
        made = book()
        before = state_of(made)
        made.put(0, (10, 2))
        made.relabel(0, "a", "x")
        made.swap(1, 1)
        self.same((made.edits, state_of(made)), (3, before))
        for left in (2, 1, 0):
            self.same(made.undo(), None)
            self.same((made.edits, state_of(made)), (left, before))
        self.refuses(NothingToUndo(), made.undo)


class UndoTest(CrossTest):
    def edits(self, made, seed):
        """An edit that the seed tells, of any kind; it may be refused."""
        kind, first, second = numbers(seed, 3, 0, 6)
        label = ("x", "y", 1, 2, "1", None, "x")[second]
        return [lambda: made.put(first, (second, 3)), lambda: made.relabel(first, "ab"[second % 2], label),
                lambda: made.swap(first, second), lambda: made.add_plot([label, first], second),
                lambda: made.drop(first), made.undo, lambda: made.relabel(0, "c", label)][kind]

    def test_undo_over_all_kinds_of_edits(self):
        for start in range(12):
            made = book()
            past = [state_of(made)]
            for seed in range(start * 50, start * 50 + 25):
                edit = self.edits(made, seed)
                undone = edit == made.undo
                try:
                    edit()
                except CrossError:
                    self.same(state_of(made), past[-1])
                else:
                    if undone:
                        past.pop()
                        self.same(state_of(made), past[-1])
                    else:
                        past.append(state_of(made))
                self.same(made.edits, len(past) - 1)
                # Each question is answered as by a Book that is made anew.
                self.same(state_of(Book(made.names, made.rows_now())), state_of(made))
            while made.edits:
                made.undo()
                past.pop()
                self.same(state_of(made), past[-1])
            self.refuses(NothingToUndo(), made.undo)

    def test_a_new_edit_behind_an_undo(self):
        made = book()
        made.put(0, 1)
        made.put(0, 2)
        made.undo()
        made.put(0, 3)
        self.same((made.edits, made.table().cells[0]), (2, (3, 1)))
        made.undo()
        self.same(made.table().cells[0], (1, 1))
        made.undo()
        self.same(made.table().cells[0], (5, 1))

    def test_undo_of_adding_and_dropping(self):
        made = book()
        made.drop(0)
        made.add_plot(["z", 9], 9)
        made.undo()
        self.same(made.plots, 2)
        made.undo()
        self.same((made.plots, made.rows_now()), (3, book().rows_now()))


class QuestionTest(CrossTest):
    def books(self):
        for seed in range(30):
            many, plots = 1 + seed % 3, 1 + seed % 6
            rows = [(numbers(seed * 31 + plot, many, 0, 1 + seed % 2), (plot - 2, 1 + seed % 4))
                    for plot in range(plots)]
            yield Book(list("abc"[:many]), rows)

    def test_answers(self):
        found = set()
        for made in self.books():
            partings = [Parting([labels[k] for labels, _ in made.rows_now()]) for k in range(len(made.names))]
            table = Table([number for _, number in made.rows_now()])
            self.assertTrue(made.table() == table)
            for name, own in zip(made.names, partings):
                self.assertTrue(made.parting(name) == own)
            self.same(made.breaks(), pair_breaks(partings))
            self.same(made.is_orthogonal(), pair_breaks(partings) == [])
            self.same(made.unlike_orders(), order_paper(partings))
            self.same(answer_of(made.squares), answer_of(lambda: Strata(partings).squares(table)))
            found.add(made.is_orthogonal())
        self.assertEqual(found, {True, False})

    def test_lot_sizes(self):
        made = Book(["a", "b"], [([1, "x"], 0), (["1", "x"], 0), ([1, ""], 0)])
        for name, label, count in (("a", 1, 2), ("a", "1", 1), ("a", 0, 0), ("a", "x", 0), ("b", "x", 2), ("b", "", 1),
                                   ("b", 1, 0), ("b", BIG, 0)):
            self.same(made.lot_size(name, label), count)
        self.same(made.lot_size(name="a", label=1), 2)
        self.same(made.parting(name="a").names, (0, 1, 0))

    def test_unknown_names(self):
        made = book()
        for value in BAD_NAMES + ("c", "ab"):
            self.refuses(UnknownName(value), made.parting, value)
            self.refuses(UnknownName(value), made.lot_size, value, "x")

    def test_errors_of_other_classes(self):
        made = book()
        self.refuses(NotOrthogonal(0, 1), made.squares)
        self.same(made.unlike_orders()[3], order_paper([made.parting("a"), made.parting("b")])[3])
        ten = Book(["a"], [([plot], plot) for plot in range(10)])
        self.refuses(TooMany("plots", 9), ten.unlike_orders)
        rows = [(list(signs), 1) for signs in zip("aabcdefghi", "abccdefghi", "abcdeefghi", "abcdefgghi")]
        wide = Book(list("pqrs"), rows)
        self.refuses(TooMany("members", 16), wide.squares)
        wide.drop(9)
        self.refuses(TooMany("members", 16), wide.squares)


class TwinTest(CrossTest):
    def test_twins(self):
        made = book()
        made.put(0, 7)
        twin = made.twin()
        self.assertIs(type(twin), Book)
        self.same((state_of(twin), twin.edits), (state_of(made), 0))
        self.refuses(NothingToUndo(), twin.undo)
        before = state_of(made)
        twin.relabel(0, "a", "q")
        twin.swap(0, 1)
        twin.drop(2)
        self.same((state_of(made), made.edits), (before, 1))
        before = state_of(twin)
        made.undo()
        made.add_plot(["w", 3], 3)
        made.swap(0, 1)
        self.same((state_of(twin), twin.edits), (before, 3))
        twin.undo()
        self.same(twin.plots, 3)

    def test_a_twin_is_a_question(self):
        made = book()
        made.put(0, 1)
        made.twin()
        self.same(made.edits, 1)
        self.assertIsNot(made.twin(), made)
