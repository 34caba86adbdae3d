import ast
from itertools import combinations, permutations, product
from pathlib import Path

from crossmeans import judge
from crossmeans.autos import rearrangements
from crossmeans.closure import closure
from crossmeans.dealings import deal_by
from crossmeans.estimable import information, is_blind
from crossmeans.judge import (is_names, judge_blind, judge_blocks, judge_break, judge_deal, judge_fit, judge_loss,
                              judge_orders, judge_path, judge_split, judge_table)
from crossmeans.lattice import is_join_path, join_path
from crossmeans.lost import mends
from crossmeans.matrices import blind_vector
from crossmeans.meetings import is_break, meeting
from crossmeans.orders import coarse_first_orders, fit, is_fit, order_fits, order_paper, sequence_squares
from crossmeans.partings import Parting
from crossmeans.seek import is_block_design, seek_blocks
from crossmeans.strata import Strata, is_split
from crossmeans.tables import Table, orders_agree
from tests.helpers import (ANY_VALUES, BIG, CrossTest, every_parting, mixed_lists, names_of, numbers, parting,
                           partings_of, slow_orthogonal)
from tests.test_orders import BROKEN, PAPER
from tests.test_seek import FANO

DEEP = ((((((1, 2),), [3]), None), "x"), True)
WIDE = (tuple(range(200)), (0,) * 200, ((0, 1),) * 200, ((0,) * 16,) * 17, [(0, 1)] * 200, "0" * 200,
        ((0,) * 200,) * 200)
VALUES = ANY_VALUES + WIDE + (DEEP, (0, 0), (0, 1, 2), ((0, 1),), ((0, 1), (0, 1)), ((0, 0), (0, 1)), ((0, 1), (1, 1)),
                              ((0, 0, 2), (0, 1, 1)), (((0, 1),),), (-1,), (BIG,), ((1, BIG), (BIG, 1)))
FIRST, SECOND = (0, 0, 2), (0, 1, 1)
CELLS = ((1, 1), (0, 1), (0, 1))


def spoilt(value):
    """The value with each of its parts, at any depth, replaced by other ones, left out or doubled."""
    found = []
    if isinstance(value, tuple):
        found.append(list(value))
        found.append(value + (None,))
        for at, part in enumerate(value):
            found.append(value[:at] + value[at + 1:])
            found.append(value[:at] + (part, part) + value[at + 1:])
            for other in spoilt(part):
                found.append(value[:at] + (other,) + value[at + 1:])
    elif isinstance(value, int):
        found.extend([None, True, False, str(value), [value], (value,), (value, 1), value + 1, -1 - value, BIG])
    return found


def pair_cells(numbers_of):
    return tuple((number, 1) for number in numbers_of)


def right_calls():
    """Each judge with right arguments."""
    members = closure(BROKEN)
    strata = Strata([parting("aabb")])
    table = Table([1, 2, 4, 9])
    matrix = tuple(tuple(row) for row in information(strata, 1, parting("abab")))
    return [
        (judge.is_names, ((0, 0, 2, 0),)),
        (judge_path, ((0, 0, 2, 2), (0, 1, 1, 3), 0, 3, (0, 1, 2, 3))),
        (judge_break, (FIRST, SECOND, (0, 0, 0, 1, 2, 1, 3))),
        (judge_table, (FIRST, SECOND, CELLS)),
        (judge_split, (tuple(names_of(strata.members)), table.cells, tuple(p.cells for p in strata.pieces(table)))),
        (judge_fit, ((FIRST, SECOND), CELLS, fit(BROKEN, Table(CELLS)))),
        (judge_orders, (tuple(names_of(members)), PAPER, order_fits(BROKEN, PAPER))),
        (judge_blind, (matrix, ((1, 1), (-1, 1)), blind_vector(matrix, [1, -1]))),
        (judge_deal, ((1, 2, 0), (5, 6, 7), (7, 5, 6))),
        (judge_loss, ((FIRST, SECOND), (1,))),
        (judge_blocks, (FANO, 7, 3, 1))]


class AnyValueTest(CrossTest):
    def test_right_papers(self):
        for call, right in right_calls():
            self.same(call(*right), True)

    def test_values_of_every_kind(self):
        for call, right in right_calls():
            for at, _ in enumerate(right):
                for value in VALUES:
                    made = call(*right[:at], value, *right[at + 1:])
                    self.assertIs(type(made), bool)
            for value in VALUES:
                self.assertIs(type(call(*[value] * len(right))), bool)

    def test_kinds_within_each_argument(self):
        """A part of a wrong kind is never taken for a right one."""
        for call, right in right_calls():
            for at, argument in enumerate(right):
                for other in spoilt(argument):
                    made = call(*right[:at], other, *right[at + 1:])
                    self.assertIs(type(made), bool)
                    if wrong_kind(other):
                        self.same(made, False)

    def test_arguments_stay(self):
        for call, right in right_calls():
            kept = repr(right)
            lists = [list(argument) if isinstance(argument, tuple) else argument for argument in right]
            told = repr(lists)
            call(*right)
            call(*lists)
            self.assertEqual((repr(right), repr(lists)), (kept, told))

    def test_only_ratios_is_called(self):
        tree = ast.parse(Path(judge.__file__).read_text())
        modules = {node.module for node in ast.walk(tree) if isinstance(node, ast.ImportFrom)}
        self.assertEqual({name for name in modules if name.startswith("crossmeans")}, {"crossmeans.ratios"})


def wrong_kind(value):
    """True if a part is neither a tuple nor a whole number."""
    if isinstance(value, tuple):
        return any(wrong_kind(part) for part in value)
    return not isinstance(value, int) or isinstance(value, bool)


class NamesTest(CrossTest):
    def test_example(self):
        self.same((is_names((0, 0, 2)), is_names((0, 2, 2)),
                   judge_table((0, 0, 2), (0, 1, 1), ((1, 1), (0, 1), (0, 1)))), (True, False, True))

    def test_all_small_tuples(self):
        for plots in range(1, 5):
            right = {made.names for made in every_parting(plots)}
            for entries in product(range(-1, plots + 1), repeat=plots):
                self.same(is_names(names=entries), entries in right)
        self.same(is_names(()), False)
        self.same(is_names(tuple(range(16))), True)
        self.same(is_names((0,) * 16), True)
        self.same(is_names((0,) * 17), False)

    def test_spoilt_names(self):
        for value in VALUES:
            self.same(is_names(value), value in ((0,), (0, 0), (0, 1, 2)) and isinstance(value, tuple))
        for value in ([0], (False,), (0, True), (0, None), (0, "0"), (0, (0,)), (0, [0])):
            self.same(is_names(value), False)


class PathTest(CrossTest):
    def test_as_is_join_path(self):
        for first, second in product(every_parting(3), repeat=2):
            for start, goal in product(range(3), repeat=2):
                for length in range(4):
                    for path in product(range(-1, 4), repeat=length):
                        right = is_join_path(first, second, start, goal, path)
                        self.same(judge_path(first.names, second.names, start, goal, path), right)
        for first, second in zip(every_parting(5), reversed(every_parting(5))):
            for goal in range(5):
                path = join_path(first, second, 0, goal)
                self.same(judge_path(first.names, second.names, 0, goal, path), path is not None)

    def test_wrong_arguments(self):
        right = {"first": FIRST, "second": SECOND, "start": 0, "goal": 2, "path": (0, 1, 2)}
        self.same(judge_path(**right), True)
        for name, values in (("start", (1, 3, -1, False, None)), ("goal", (1, 3, -1, True, None, (2,))),
                             ("first", ((0, 0), (0, 0, 0, 0), [0, 0, 2], (0, 0, 3))),
                             ("second", ((0,), (0, 1), (0, 1, 1, 1))),
                             ("path", ((), (0, 1), (0, 0, 1, 2), (0, 2), (0, True, 2), [0, 1, 2]))):
            for value in values:
                self.same(judge_path(**{**right, name: value}), False)
        self.same(judge_path(FIRST, SECOND, 1, 1, (1,)), True)
        self.same(judge_path(FIRST, SECOND, 1, 1, (1, 0, 1)), True)
        self.same(judge_path(FIRST, SECOND, 0, 2, (0, 1) * 99 + (2,)), True)
        self.same(judge_path(FIRST, SECOND, 1, 2, (1, 0) * 99 + (2,)), False)
        self.same(judge_path(FIRST, SECOND, True, True, (1,)), False)


class BreakTest(CrossTest):
    def test_as_is_break(self):
        for first, second in product(every_parting(4), repeat=2):
            for row in meeting(first, second):
                right = is_break(first, second, row)
                self.same(judge_break(first=first.names, second=second.names, row=row), right)
                for at in range(7):
                    other = row[:at] + (row[at] + 1,) + row[at + 1:]
                    self.same(judge_break(first.names, second.names, other), is_break(first, second, other))
        self.same(judge_break(FIRST, (0, 1), (0, 0, 0, 1, 2, 1, 3)), False)
        self.same(judge_break(FIRST, SECOND, (0, False, 0, True, 2, 1, 3)), False)
        self.same(judge_break(FIRST, SECOND, ()), False)

    def test_tables(self):
        for first, second in product(every_parting(4), repeat=2):
            for seed in range(2):
                cells = tuple((number, 1) for number in numbers(seed, 4, 0, 1))
                expected = not orders_agree(first, second, Table(cells))
                self.same(judge_table(first=first.names, second=second.names, cells=cells), expected)
        for cells in ((1, 0, 0), CELLS[:2], CELLS + ((0, 1),), ((2, 2), (0, 1), (0, 1)), ((1, 1), (0, 2), (0, 1)), (),
                      ((-1, -1), (0, 1), (0, 1)), list(CELLS), ([1, 1], (0, 1), (0, 1)), ((True, 1), (0, 1), (0, 1))):
            self.same(judge_table(FIRST, SECOND, cells), False)
        self.same(judge_table(FIRST, (0, 1, 1, 3), CELLS), False)


class SplitTest(CrossTest):
    def test_as_is_split(self):
        for seed, listed in enumerate(mixed_lists(4, 60, 4)):
            members = [made for at, made in enumerate(listed) if made not in listed[:at]]
            for kind in range(4):
                pieces = [Table(numbers(seed + 10 * kind + at, 4, 0, kind)) for at in range(len(members))]
                table = pieces[0]
                for part in pieces[1:]:
                    table = table + part
                right = is_split(members, table, pieces)
                self.same(judge_split(tuple(names_of(members)), table.cells, tuple(p.cells for p in pieces)), right)

    def test_strata(self):
        for texts in (["aabb"], ["aabb", "abab"], ["aabb", "abab", "abba"], ["aaab"], ["a"], ["aaabbb", "abcabc"]):
            strata = Strata(partings_of(texts))
            table = Table([(number, 3) for number in numbers(len(texts), strata.plots)])
            members = tuple(names_of(strata.members))
            pieces = tuple(part.cells for part in strata.pieces(table))
            self.same(judge_split(members=members, cells=table.cells, pieces=pieces), True)
            for at in range(len(pieces)):
                for plot in range(strata.plots):
                    cells = pieces[at][:plot] + ((5, 7),) + pieces[at][plot + 1:]
                    self.same(judge_split(members, table.cells, pieces[:at] + (cells,) + pieces[at + 1:]), False)
            self.same(judge_split(members, table.cells, pieces[:-1]), False)
            self.same(judge_split(members, table.cells, pieces + pieces[:1]), False)
            self.same(judge_split(members, table.cells, list(pieces)), False)

    def test_wrong_members(self):
        zero = ((0, 1),) * 2
        self.same(judge_split(((0, 0),), zero, (zero,)), True)
        for members, pieces in (((), ()), (((0, 0), (0, 0)), (zero, zero)), (((0, 0), (0, 1, 2)), (zero, zero)),
                                ([(0, 0)], (zero,)), ((0, 0), (zero, zero)), (((0, 1), (0, 0), (0, 1)), (zero,) * 3)):
            self.same(judge_split(members, zero, pieces), False)
        sixteen = [made.names for made in every_parting(5)[:17]]
        fives = ((0, 1),) * 5
        self.same(judge_split(tuple(sixteen[:16]), fives, (fives,) * 16), True)
        self.same(judge_split(tuple(sixteen), fives, (fives,) * 17), False)


class FitTest(CrossTest):
    def test_as_is_fit(self):
        for seed, listed in enumerate(mixed_lists(4, 40, 4)):
            table = Table(numbers(seed, 4))
            parts = fit(listed, table)
            names = tuple(names_of(listed))
            self.same(judge_fit(partings=names, cells=table.cells, parts=parts), True)
            for at, part in enumerate(parts):
                for cell in ((1, 2), (0, 1), (7, 1)):
                    for cells in ((cell,) * 4, (cell,) + part[1:]):
                        other = parts[:at] + (cells,) + parts[at + 1:]
                        self.same(judge_fit(names, table.cells, other), is_fit(listed, table, other))
        # Another fit than that of the program: a constant is moved from one part to the other.
        first, second = fit(BROKEN, Table(CELLS))
        moved = (tuple((num + den, den) for num, den in first), tuple((num - den, den) for num, den in second))
        self.same(judge_fit((FIRST, SECOND), CELLS, moved), True)

    def test_no_partings(self):
        for plots in range(1, 17):
            self.same(judge_fit((), ((1, 2),) * plots, ()), True)
            self.same(judge_fit((), ((1, 2),) * plots, (((1, 2),) * plots,)), False)
        for cells in ((), ((1, 2),) * 17, ((2, 2),), [(1, 2)], (1,), None, ((1, 2), None)):
            self.same(judge_fit((), cells, ()), False)
        self.same(judge_fit([], CELLS, ()), False)
        self.same(judge_fit((), CELLS, []), False)

    def test_many_partings(self):
        zero = ((0, 1),) * 2
        for count in range(19):
            self.same(judge_fit(((0, 1),) * count, zero, (zero,) * count), count <= 16)
        long = ((BIG, 2),) * 16
        self.same(judge_fit(((0,) * 16,), long, (long,)), True)
        self.same(judge_fit(((0,) * 15,), long, (long,)), False)
        self.same(judge_fit(((0, 0), (0, 0, 0)), zero, (zero, zero)), False)


class OrdersTest(CrossTest):
    MEMBERS = tuple(names_of(closure(BROKEN)))
    FITS = order_fits(BROKEN, PAPER)

    def test_papers(self):
        count = 0
        for listed in mixed_lists(4, 40, 3) + mixed_lists(5, 20, 3):
            paper = order_paper(listed) if len(closure(listed)) < 9 else None
            if paper:
                members = tuple(names_of(closure(listed)))
                fits = order_fits(listed, paper)
                self.same(judge_orders(members=members, paper=paper, fits=fits), True)
                turned = (paper[1], paper[0]) + paper[2:]
                self.same(judge_orders(members, turned, fits[2:] + fits[:2]), True)
                self.same(judge_orders(members, turned, fits), paper[0] == paper[1])
                count += 1
        self.assertGreater(count, 20)

    def test_all_orders_of_small_closures(self):
        """Fits of all kinds of papers: right exactly if the two squares are unequal."""
        for listed in (BROKEN, partings_of(["aabc", "abbb"]), partings_of(["aabb", "abab"])):
            members = closure(listed)
            names = tuple(names_of(members))
            for one, two in product(coarse_first_orders(members)[:6], repeat=2):
                for cells, at in product(((1, 0, 0, 0), (1, 2, 0, 5)), range(len(members))):
                    table = Table(cells[:members[0].plots])
                    fits = fits_of(members, (one, two, table.cells, at))
                    right = sequence_squares(members, one, table)[at] != sequence_squares(members, two, table)[at]
                    self.same(judge_orders(names, (one, two, table.cells, at), fits), right)

    def test_wrong_members(self):
        one, two, three = self.MEMBERS
        # With fits that belong to the members as they stand, all but their list is right.
        cells = Table.mark(4, [0]).cells
        for texts, right in ((["aaaa", "aaab", "aabc", "abbc"], True), (["aaab", "aabc", "abbc"], False),
                             (["aaaa", "aaab", "abbc", "aabc"], False), (["aaaa", "aabc", "abbc"], False),
                             (["aaab", "aaaa", "aabc", "abbc"], False)):
            members = partings_of(texts)
            last = len(members) - 1
            begun = tuple(range(last - 1)) if texts[0] == "aaaa" or last == 2 else (1, 0)
            paper = (begun + (last - 1, last), begun + (last, last - 1), cells, last)
            self.same(judge_orders(tuple(names_of(members)), paper, fits_of(members, paper)), right)
        for members in ((one, three, two), (two, one, three), (one, two), (one, two, two), (two, three),
                        (one, two, three, three), list(self.MEMBERS), (one, two, (0, 1)),
                        (one, two, three, (0, 1, 2)), (one, two, (0, 1, 0)), ()):
            self.same(judge_orders(members, PAPER, self.FITS), False)
        lone = (((0,), (0,), ((1, 1), (2, 1)), 0), ((), (((3, 2),) * 2,)) * 2)
        self.same(judge_orders(((0, 0),), *lone), False)

    def test_wrong_papers(self):
        one, two, cells, at = PAPER
        for paper in ((one, one, cells, at), (two, one, cells, at), (one, two, cells, 0), (one, two, cells, 2),
                      (one, two, cells, 3), (one, two, cells, -1), (one, two, cells, True), (one, two, cells[:2], at),
                      (one, two, ((2, 1),) + cells[1:], at), (one, (2, 0, 1), cells, at), (one, (0, 2), cells, at),
                      (one, (0, 2, 2), cells, at), (one, (0, 2, 1, 3), cells, at), (one, [0, 2, 1], cells, at),
                      (one, two, list(cells), at), list(PAPER), PAPER[:3], PAPER + (0,), (), None):
            self.same(judge_orders(self.MEMBERS, paper, self.FITS), False)

    def test_wrong_fits(self):
        fits = self.FITS
        zero = ((0, 1),) * 3
        for other in (fits[:3], fits + fits[:1], list(fits), fits[::-1], (fits[0], fits[0], fits[2], fits[3]),
                      ((),) + fits[1:], (fits[0], fits[1] + (zero,), fits[2], fits[3]),
                      (fits[0], fits[1][::-1]) + fits[2:], fits[:3] + (fits[3] + (zero,),), ((), (), (), ()),
                      None, (fits[0], list(fits[1])) + fits[2:]):
            self.same(judge_orders(self.MEMBERS, PAPER, other), False)
        for at, parts in enumerate(fits):
            for k, part in enumerate(parts):
                for plot in range(3):
                    cells = part[:plot] + ((9, 5),) + part[plot + 1:]
                    other = fits[:at] + (parts[:k] + (cells,) + parts[k + 1:],) + fits[at + 1:]
                    self.same(judge_orders(self.MEMBERS, PAPER, other), False)

    def test_no_limit_on_plots_but_sixteen(self):
        first = Parting([0, 0] + list(range(2, 16)))
        second = Parting([0, 1, 1] + list(range(3, 16)))
        members = [Parting.one(16), first | second, first, second]
        table = Table.mark(16, [0])
        # Beyond 9 plots the program has no fits, but those of three plots are parts of them.
        small = [Parting([0, 0, 0]), Parting([0, 0, 0]), Parting([0, 0, 2]), Parting([0, 1, 1])]
        fits = []
        for taken in ((0, 1), (0, 1, 2), (0, 1, 3), (0, 1, 3, 2)):
            parts = fit([small[k] for k in taken], Table.mark(3, [0]))
            fits.append(tuple(tuple(part) + ((0, 1),) * 13 for part in parts))
        # The part of the one-lot parting must be constant: it is moved to the join.
        fits = [(((0, 1),) * 16, added(parts[0], parts[1])) + parts[2:] for parts in fits]
        paper = ((0, 1, 2, 3), (0, 1, 3, 2), table.cells, 2)
        self.same(judge_orders(tuple(names_of(members)), paper, tuple(fits)), True)
        self.same(judge_orders(tuple(names_of(members)), paper[:3] + (1,), tuple(fits)), False)


def fits_of(members, paper):
    """The four fits of a paper of any members."""
    one, two, cells, at = paper
    taken = [order[:order.index(at) + more] for order in (one, two) for more in (0, 1)]
    return tuple(fit([members[place] for place in places], Table(cells)) for places in taken)


def added(left, right):
    return (Table(left) + Table(right)).cells


class BlindTest(CrossTest):
    def test_as_is_blind(self):
        for entries in product((-1, 0, 1), repeat=4):
            matrix = (pair_cells(entries[:2]), pair_cells(entries[2:]))
            for paper, wish in product(product((-1, 0, 2), repeat=2), ((1, 0), (1, -1), (0, 0))):
                right = is_blind(matrix, wish, pair_cells(paper))
                self.same(judge_blind(matrix=matrix, wish=pair_cells(wish), paper=pair_cells(paper)), right)

    def test_wrong_arguments(self):
        zero, one = (0, 1), (1, 1)
        self.same(judge_blind(((zero,),), (one,), (one,)), True)
        for matrix, wish, paper in (
                ((), (), ()), (((0,),), (one,), (one,)), (((zero,),), (1,), (one,)), (((zero,),), (one,), (1,)),
                ([(zero,)], (one,), (one,)), (([zero],), (one,), (one,)), (((zero,),), [one], (one,)),
                (((zero,),), (one,), [one]), (((zero, zero),), (one,), (one,)), (((zero,), (zero,)), (one,), (one,)),
                (((zero,), (zero,)), (one, one), (one, one)), (((zero,),), (one, one), (one,)),
                (((zero,),), (one,), (one, one)), ((((0, 2),),), (one,), (one,)), (((zero,),), ((2, 2),), (one,)),
                (((zero,),), (one,), ((-1, -1),)), (((zero,),), (one,), ((True, 1),)), (((one,),), (one,), (one,)),
                (((zero,),), (zero,), (one,)), (((zero,),), (one,), (zero,)), ((zero,), (one,), (one,))):
            self.same(judge_blind(matrix, wish, paper), False)
        for size in (16, 17):
            wide = ((zero,) * size,) * size
            self.same(judge_blind(wide, (one,) + (zero,) * (size - 1), (one,) * size), size == 16)


class DealTest(CrossTest):
    def test_all_small_designs(self):
        for images in permutations(range(3)):
            for design, dealt in product(product((0, 1, 15), repeat=3), repeat=2):
                self.same(judge_deal(arrangement=images, design=design, dealt=dealt), deal_by(images, design) == dealt)
        for images in rearrangements([parting("aabb")]):
            design = (3, 1, 4, 1)
            self.same(judge_deal(images, design, deal_by(images, design)), True)
        whole = tuple(range(16))
        self.same(judge_deal(whole, whole, whole), True)

    def test_wrong_arguments(self):
        right = ((1, 0), (3, 4), (4, 3))
        for at, values in enumerate((
                ((0, 1), (1, 1), (0,), (1, 0, 2), (2, 0), (-1, 0), (True, 0), (1, False), (None, 0), [1, 0], (), None),
                ((3, 3), (3,), (3, 4, 5), (3, 16), (-1, 4), (True, 4), (None, 4), [3, 4], (), "34", ((3,), 4)),
                ((3, 4), (4,), (4, 3, 3), (16, 3), (4, -1), (4, False), (4, None), [4, 3], (), "43", (4, [3])))):
            for value in values:
                self.same(judge_deal(*right[:at], value, *right[at + 1:]), False)
        self.same(judge_deal((1, 1), (3, 3), (3, 3)), False)
        self.same(judge_deal((0, 0), (3, 3), (3, 4)), False)
        seventeen = tuple(range(17))
        self.same(judge_deal(seventeen, (0,) * 17, (0,) * 17), False)
        self.same(judge_deal((), (), ()), False)
        # True is equal to 1, and is still no treatment.
        self.same(judge_deal((0,), (1,), (True,)), False)
        self.same(judge_deal((0,), (True,), (1,)), False)


class LossTest(CrossTest):
    def test_as_mends(self):
        for listed in mixed_lists(4, 40, 3):
            names = tuple(names_of(listed))
            for count in range(5):
                for lost in combinations(range(4), count):
                    right = count < 4 and mends(listed, lost)
                    self.same(judge_loss(partings=names, lost=lost), right)
                    if count > 1:
                        self.same(judge_loss(names, lost[::-1]), False)
                        self.same(judge_loss(names, lost + lost[-1:]), False)
        for one, other in product(every_parting(4), repeat=2):
            self.same(judge_loss((one.names, other.names), ()), slow_orthogonal(one, other))

    def test_wrong_arguments(self):
        for partings in ((), [FIRST], (FIRST, (0, 1)), (FIRST, [0, 1, 1]), FIRST, (FIRST,) * 17, ((0, 0, 1),), None):
            self.same(judge_loss(partings, (1,)), False)
        for lost in ([1], (3,), (-1,), (True,), (None,), ("1",), 1, (1, 1), (2, 1), (0, 1, 2), ((1,),), "1"):
            self.same(judge_loss((FIRST, SECOND), lost), False)
        self.same(judge_loss((FIRST,) * 16, ()), True)
        self.same(judge_loss(((0,),), ()), True)
        self.same(judge_loss(((0,),), (0,)), False)

    def test_sixteen_plots(self):
        rows, columns = parting("aaaabbbbccccdddd").names, parting("abcdabcdabcdabcd").names
        self.same(judge_loss((rows, columns) * 8, ()), True)
        self.same(judge_loss((rows, columns) * 8, (15,)), False)
        self.same(judge_loss((rows, columns), (3, 7, 11, 15)), True)


class BlocksTest(CrossTest):
    def test_as_is_block_design(self):
        blocks = list(combinations(range(4), 3))
        for length in range(5):
            for design in product(blocks, repeat=length):
                for together in (1, 2):
                    self.same(judge_blocks(blocks=design, treatments=4, size=3, together=together),
                              is_block_design(design, 4, 3, together))
        for numbers_of in ((7, 3, 1), (7, 4, 2), (6, 3, 2), (3, 3, 2), (2, 2, 1)):
            self.same(judge_blocks(seek_blocks(*numbers_of), *numbers_of), True)
        self.same(judge_blocks((tuple(range(16)),) * 16, 16, 16, 16), True)
        self.same(judge_blocks((tuple(range(16)),) * 200, 16, 16, 16), False)

    def test_wrong_numbers(self):
        for value in ANY_VALUES + ((7,), -7, 17, 100):
            if value not in (1, 7) or isinstance(value, bool):
                self.same(judge_blocks(FANO, value, 3, 1), False)
                self.same(judge_blocks(FANO, 7, value, 1), False)
                self.same(judge_blocks(FANO, 7, 3, value), False)
        self.same(judge_blocks(FANO, 7, 3, True), False)
        self.same(judge_blocks(FANO, 7, 3, 2), False)
        self.same(judge_blocks(((0,),), 1, 1, 1), False)
        self.same(judge_blocks(((0,), (1,)), 2, 1, 1), False)
        self.same(judge_blocks((), 2, 2, 1), False)
        self.same(judge_blocks((), 2, 3, 1), False)
        self.same(judge_blocks((tuple(range(17)),), 17, 17, 1), False)

    def test_spoilt_blocks(self):
        for design in spoilt(FANO):
            self.same(judge_blocks(design, 7, 3, 1), is_block_design(design, 7, 3, 1))
            self.same(judge_blocks(design, 7, 3, 1), False)
        self.same(judge_blocks(FANO[::-1], 7, 3, 1), False)
        self.same(judge_blocks(((0, 1, 2),), 3, 2, 1), False)
        self.same(judge_blocks(((0, 1, 2), (0, 3), (1, 3), (2, 3)), 4, 2, 1), False)

    def test_all_small_tuples_of_blocks(self):
        for treatments, size, most in ((3, 2, 3), (3, 3, 2), (2, 2, 3)):
            blocks = list(product(range(treatments), repeat=size))
            for length in range(most + 1):
                for design in product(blocks, repeat=length):
                    for together in (1, 2):
                        right = is_block_design(design, treatments, size, together)
                        self.same(judge_blocks(design, treatments, size, together), right)
