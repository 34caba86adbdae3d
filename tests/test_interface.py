"""The names, parameters and places of definition that the document's interface lists."""

import inspect
from importlib import import_module

from crossmeans.errors import BadLots, BadPlot, BadShape, BadText
from crossmeans.lattice import is_join_path
from crossmeans.matrices import solve
from crossmeans.partings import Parting, read_parting
from crossmeans.ratios import total
from crossmeans.tables import Table, table_sum
from tests.helpers import BIG, CrossTest, parting

FUNCTIONS = {
    "partings": {"parting_text": "(parting)", "read_parting": "(text)", "all_partings": "(plots)"},
    "lattice": {
        "is_finer": "(first, second)", "is_strictly_finer": "(first, second)", "are_comparable": "(first, second)",
        "meet_all": "(partings, *, plots=None)", "join_all": "(partings, *, plots=None)",
        "join_path": "(first, second, start, goal)", "is_join_path": "(first, second, start, goal, path)"},
    "ratios": {
        "ratio": "(num, den=1)", "as_ratio": "(number, at=0)", "plus": "(left, right)", "minus": "(left, right)",
        "times": "(left, right)", "over": "(left, right)", "negated": "(number)", "compare": "(left, right)",
        "total": "(numbers)", "ratio_text": "(number)", "read_ratio": "(text)"},
    "tables": {
        "table_sum": "(plots, *tables)", "lot_totals": "(parting, table)", "means": "(parting, table)",
        "means_by": "(partings, table)", "residue": "(parting, table)", "is_constant": "(parting, table)",
        "orders_agree": "(first, second, table)"},
    "matrices": {
        "identity": "(plots)", "projector": "(parting)", "matrix_sum": "(left, right)",
        "matrix_scale": "(matrix, number)", "matrix_product": "(left, right)", "transpose": "(matrix)",
        "trace": "(matrix)", "apply_matrix": "(matrix, table)", "is_projector": "(matrix)",
        "solve": "(matrix, right)", "blind_vector": "(matrix, right)"},
    "meetings": {
        "meeting": "(first, second)", "first_break": "(first, second)", "are_orthogonal": "(first, second)",
        "is_break": "(first, second, row)", "break_table": "(first, second, row)",
        "count_table": "(first, second)", "pair_breaks": "(partings)", "all_orthogonal": "(partings)"},
    "closure": {
        "closure": "(partings, *, top=True, bottom=False)", "order_members": "(partings)",
        "closed_by_joins": "(partings)", "closed_by_meets": "(partings)", "needed": "(partings)",
        "covers": "(members)", "is_block_structure": "(partings)", "is_simple": "(partings)"},
    "moebius": {
        "zeta": "(members)", "moebius": "(members)", "dimensions": "(members)", "interval": "(members, low, high)",
        "sum_up": "(members, numbers)", "turn_back": "(members, numbers)"},
    "strata": {"is_split": "(members, table, pieces)"},
    "orders": {
        "is_coarse_first": "(members, order)", "coarse_first_orders": "(members, *, limit=20)",
        "sequence_squares": "(partings, order, table)", "fit": "(partings, table)",
        "is_fit": "(partings, table, parts)", "order_free": "(partings)", "order_paper": "(partings)",
        "is_order_paper": "(partings, paper)", "order_fits": "(partings, paper)"},
    "formula": {"same_terms": "(left, right)"},
    "formread": {
        "read_formula": "(text)", "write_formula": "(formula)", "write_terms": "(formula)",
        "formula_for": "(factors, terms)"},
    "crossnest": {
        "plots_of": "(sizes)", "coordinates": "(sizes, plot)", "plot_at": "(sizes, levels)",
        "term_parting": "(sizes, term)", "structure": "(formula, sizes)", "stratum_size": "(formula, sizes, term)",
        "group_order": "(formula, sizes)", "product_parting": "(first, second)", "cross_partings": "(left, right)",
        "nest_partings": "(left, right)"},
    "autos": {
        "compose": "(first, second)", "inverse": "(arrangement)", "keeps": "(arrangement, parting)",
        "move_table": "(arrangement, table)", "move_parting": "(arrangement, parting)",
        "rearrangements": "(partings, *, limit=400)", "orbits": "(arrangements)", "pair_orbits": "(arrangements)",
        "pair_classes": "(partings)", "average_products": "(arrangements, table)"},
    "dealings": {
        "deal_by": "(arrangement, design)", "deal_all": "(arrangements, design)", "fixing": "(arrangements, design)",
        "lot_dealings": "(parting, treatments, *, balanced=False)",
        "count_dealings": "(parting, treatments, *, balanced=False)"},
    "confound": {
        "block_parting": "(house, block_words)", "confounded": "(house, block_words)",
        "effect_square": "(house, word, table)", "contrast": "(house, word)", "effect_place": "(strata, effect)",
        "effect_places": "(house, strata)", "choose_blocks": "(house, count, keep=())"},
    "estimable": {
        "information": "(strata, at, treatments)", "combined_information": "(strata, treatments, weights)",
        "shares": "(strata, table)", "balance": "(strata, treatments)",
        "can_estimate": "(strata, at, treatments, wish)", "estimate": "(strata, at, treatments, wish, table)",
        "wish_cost": "(strata, at, treatments, wish)", "efficiency_of": "(strata, at, treatments, wish)",
        "combined_estimate": "(strata, treatments, wish, table, *, weights)",
        "combined_cost": "(strata, treatments, wish, *, weights)", "is_blind": "(matrix, wish, paper)"},
    "seek": {
        "latin_squares": "(size)", "is_latin": "(square)", "are_mates": "(first, second)", "mates": "(square)",
        "square_partings": "(square)", "seek_blocks": "(treatments, size, together)",
        "is_block_design": "(blocks, treatments, size, together)", "block_partings": "(blocks)",
        "split_plot": "(blocks, wholes, subs)"},
    "lost": {
        "leave_out": "(parting, lost)", "leave_out_cells": "(table, lost)", "mends": "(partings, lost)",
        "all_least_losses": "(partings, *, keep=())", "least_loss": "(partings, *, keep=())"},
    "script": {"read_script": "(text)", "write_script": "(deeds)", "run_script": "(text)"},
    "judge": {
        "is_names": "(names)", "judge_path": "(first, second, start, goal, path)",
        "judge_break": "(first, second, row)", "judge_table": "(first, second, cells)",
        "judge_split": "(members, cells, pieces)", "judge_fit": "(partings, cells, parts)",
        "judge_orders": "(members, paper, fits)", "judge_blind": "(matrix, wish, paper)",
        "judge_deal": "(arrangement, design, dealt)", "judge_loss": "(partings, lost)",
        "judge_blocks": "(blocks, treatments, size, together)"},
}
CLASSES = {
    ("partings", "Parting"): {
        "__init__": "(self, labels)", "lot_of": "(self, plot)", "together": "(self, plot, other)",
        "is_uniform": "(self)", "one": "(plots)", "single": "(plots)", "from_lots": "(plots, lots)",
        "__eq__": None, "__and__": None, "__or__": None, "__iter__": None, "__contains__": None},
    ("tables", "Table"): {
        "__init__": "(self, cells)", "cell_sum": "(self)", "dot": "(self, table)", "square": "(self)",
        "is_zero": "(self)", "zeros": "(plots)", "mark": "(plots, lot)",
        "__add__": None, "__sub__": None, "__neg__": None, "__mul__": None, "__eq__": None, "__iter__": None},
    ("strata", "Strata"): {
        "__init__": "(self, partings, *, top=True, bottom=True)", "place": "(self, parting)",
        "piece": "(self, at, table)", "pieces": "(self, table)", "squares": "(self, table)",
        "keeps_whole": "(self, at, table)", "stratum_matrix": "(self, at)", "spectral_matrix": "(self, table)"},
    ("spans", "Span"): {
        "__init__": "(self, plots, tables=())", "nearest": "(self, table)", "square_in": "(self, table)",
        "widened": "(self, tables)", "of_partings": "(plots, partings)",
        "__contains__": None, "__or__": None, "__eq__": None},
    ("formula", "Formula"): {
        "__init__": "(self, tree)", "terms": "(self)", "above": "(self, name)", "factor": "(name)",
        "__mul__": None, "__floordiv__": None, "__eq__": None},
    ("words", "Words"): {
        "__init__": "(self, prime, factors)", "point": "(self, plot)", "value": "(self, word, plot)",
        "word_parting": "(self, word)", "word_sum": "(self, left, right)", "multiple": "(self, word, times)",
        "lead": "(self, word)", "weight": "(self, word)", "generated": "(self, words)",
        "is_independent": "(self, words)", "coset": "(self, words, word)", "least_weight": "(self, words)",
        "fraction": "(self, words)", "write": "(self, word)", "read": "(self, text)"},
    ("anova", "Anova"): {
        "__init__": "(self, blocks, effects=())", "plan": "(self)", "lines": "(self, table)",
        "report": "(self, table)"},
    ("keep", "Book"): {
        "__init__": "(self, names, rows)", "rows_now": "(self)", "put": "(self, plot, number)",
        "relabel": "(self, plot, name, label)", "swap": "(self, plot, other)", "add_plot": "(self, labels, number)",
        "drop": "(self, plot)", "undo": "(self)", "table": "(self)", "parting": "(self, name)",
        "lot_size": "(self, name, label)", "breaks": "(self)", "is_orthogonal": "(self)", "squares": "(self)",
        "unlike_orders": "(self)", "twin": "(self)", "__iter__": None},
}


class InterfaceTest(CrossTest):
    def test_functions(self):
        for module, functions in FUNCTIONS.items():
            for name, signature in functions.items():
                made = getattr(import_module(f"crossmeans.{module}"), name)
                self.assertEqual(str(inspect.signature(made)), signature, name)
                self.assertEqual(made.__module__, f"crossmeans.{module}")

    def test_classes(self):
        for (module, name), methods in CLASSES.items():
            made = getattr(import_module(f"crossmeans.{module}"), name)
            self.assertEqual(made.__module__, f"crossmeans.{module}")
            for method, signature in methods.items():
                self.assertIn(method, vars(made))
                if signature:
                    self.assertEqual(str(inspect.signature(getattr(made, method))), signature, method)


class NoLimitTest(CrossTest):
    """Lengths and sizes for which the document names no limit are taken as they are."""

    def test_long_lists(self):
        self.same(total([1] * 150), (150, 1))
        self.same(Table.mark(2, [1] * 150).cells, ((0, 1), (1, 1)))
        self.refuses(BadPlot(None), Table.mark, 2, [1] * 150 + [None])
        self.refuses(BadLots(1), Parting.from_lots, 2, [[0]] * 150)
        self.refuses(BadShape(), solve, [[1]], [1] * 150)
        self.same(table_sum(1, *[Table([1])] * 150).cells, ((150, 1),))
        self.same(is_join_path(parting("aa"), parting("ab"), 0, 1, (0, 1) * 150), True)

    def test_long_texts(self):
        self.same(Parting(["a" * 3000, "a" * 3001, "a" * 3000]).names, (0, 1, 0))
        self.refuses(BadText("0" * 3000), read_parting, "0" * 3000)

    def test_long_numbers(self):
        long = BIG ** 20
        self.same(Parting([long, long + 1, long]).names, (0, 1, 0))
        self.same(Table([(1, long), (long, 2)]).square(), Table([(long, 2), (1, long)]).square())
        self.same(solve([[long]], [1]), [(1, long)])
