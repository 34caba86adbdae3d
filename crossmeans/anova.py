"""Analyses: the strata of some blocks, with the effects that are placed in them."""

from crossmeans.checks import check_alike, check_amount, check_most, check_names
from crossmeans.closure import closure
from crossmeans.errors import NotPlaced
from crossmeans.ratios import minus, over, ratio_text, total
from crossmeans.strata import Strata, holding_place
from crossmeans.tables import lot_marks

_REST = "(rest)"


class Anova:
    """An analysis: what each effect, and the rest of each stratum, has of the square of a table."""

    def __init__(self, blocks, effects=()):
        check_amount(len(blocks), "partings")
        block_names = [name for name, _ in blocks]
        check_names(block_names)
        check_most(len(effects), "partings")
        effect_names = [name for name, _ in effects]
        check_names(block_names + effect_names)
        block_partings = [parting for _, parting in blocks]
        effect_partings = [parting for _, parting in effects]
        check_alike(block_partings[0].plots, block_partings + effect_partings)
        # Too many effect members come before blocks that are not orthogonal.
        if effect_partings:
            closure(effect_partings)
        self.strata = Strata(block_partings)
        self.effect_strata = Strata(effect_partings, bottom=False) if effect_partings else None
        effect_members = self.effect_strata.members if effect_partings else ()
        self.plots = self.strata.plots
        self.labels = _labels(self.strata.members, block_names, block_partings)
        self.effect_labels = _labels(effect_members, effect_names, effect_partings)
        # A tuple (stratum, effect member, dimension) for each line; the member is None in the line of the rest.
        self.places = _line_places(self.strata, _placed(self.strata, self.effect_strata) if effect_partings else [])

    def plan(self):
        """A tuple (label, effect, dimension) for each line."""
        return [(self.labels[at], _REST if member is None else self.effect_labels[member], dimension)
                for at, member, dimension in self.places]

    def lines(self, table):
        """A tuple (label, effect, dimension, square, mean square) for each line."""
        return [(label, effect, dimension, square, over(square, dimension) if dimension > 0 else None)
                for (label, effect, dimension), square in zip(self.plan(), _line_squares(self, table))]

    def report(self, table):
        """A text for each line, and one for the whole table."""
        texts = [" ".join([label, effect, str(dimension), ratio_text(square), _text_or_dash(mean_square)])
                 for label, effect, dimension, square, mean_square in self.lines(table)]
        return texts + [f"total {self.plots} {ratio_text(table.square())}"]


def _labels(members, names, partings):
    """The labels of the members of the closure of the partings with these names, a tuple."""
    return tuple([_label(at, member, [name for name, parting in zip(names, partings) if parting == member])
                  for at, member in enumerate(members)])


def _label(at, member, own_names):
    if own_names:
        return "=".join(own_names)
    if member.many == 1:
        return "(top)"
    if member.many == member.plots:
        return "(plots)"
    return f"(join {at})"


def _placed(strata, effect_strata):
    """A tuple (stratum, effect member, dimension) for each effect member that is not left out."""
    placed = []
    for at, member in enumerate(effect_strata.members):
        if effect_strata.dimensions[at] > 0:
            place = holding_place(strata, [effect_strata.piece(at, mark) for mark in lot_marks(member)])
            if place is None:
                raise NotPlaced(at)
            placed.append((place, at, effect_strata.dimensions[at]))
    return placed


def _line_places(strata, placed):
    """The tuples of the effect members stratum by stratum, and one for the rest of each stratum behind them."""
    places = []
    for at, dimension in enumerate(strata.dimensions):
        own = [entry for entry in placed if entry[0] == at]
        places.extend(own)
        places.append((at, None, dimension - sum([size for _, _, size in own])))
    return places


def _line_squares(analysis, table):
    """The square of each line."""
    whole = analysis.strata.squares(table)
    effects = [] if analysis.effect_strata is None else analysis.effect_strata.squares(table)
    squares = []
    for at, member, _ in analysis.places:
        own = [effects[other] for place, other, _ in analysis.places if place == at and other is not None]
        squares.append(minus(whole[at], total(own)) if member is None else effects[member])
    return squares


def _text_or_dash(number):
    return "-" if number is None else ratio_text(number)
