"""Partings: plots that are put into lots, their meets and joins, and their written form."""

from crossmeans.checks import check_alike, check_amount, check_label, check_most, check_plot, is_decimal, is_place
from crossmeans.errors import BadLots, BadText

MOST_PLOTS = 16
# The count of all partings grows too fast for more plots.
_MOST_LISTED = 5


class Parting:
    """A parting of 1 to 16 plots: two plots are in one lot exactly if their labels are equal."""

    def __init__(self, labels):
        check_amount(len(labels), "plots")
        for at, label in enumerate(labels):
            check_label(label, at)
        names = _first_places(labels)
        lots = _lots_by_name(names)
        self.plots = len(names)
        self.many = len(lots)
        self.names = tuple(names)
        self.lots = tuple(lots)
        self.sizes = tuple([len(lot) for lot in lots])

    @classmethod
    def one(cls, plots):
        """The parting of the plots with one lot."""
        check_amount(plots, "plots")
        return cls([0] * plots)

    @classmethod
    def single(cls, plots):
        """The parting with each plot in a lot of its own."""
        check_amount(plots, "plots")
        return cls(list(range(plots)))

    @classmethod
    def from_lots(cls, plots, lots):
        """The parting with these lots, which may stand in any order."""
        check_amount(plots, "plots")
        return cls(_labels_of_lots(plots, lots))

    def lot_of(self, plot):
        """The lot of the plot, a tuple."""
        check_plot(self.plots, plot)
        return [lot for lot in self.lots if plot in lot][0]

    def together(self, plot, other):
        """True if both plots are in one lot."""
        check_plot(self.plots, plot)
        check_plot(self.plots, other)
        return self.names[plot] == self.names[other]

    def is_uniform(self):
        """True if all lots have the same size."""
        return min(self.sizes) == max(self.sizes)

    def __eq__(self, other):
        return isinstance(other, Parting) and self.names == other.names

    def __and__(self, other):
        check_alike(self.plots, [other])
        return Parting(_first_places(list(zip(self.names, other.names))))

    def __or__(self, other):
        check_alike(self.plots, [other])
        return Parting(joined_names(self.names, other.names))

    def __iter__(self):
        return iter(self.lots)

    def __contains__(self, x):
        return x in self.lots


def _first_places(keys):
    """For each key the index at which an equal key stands first, a list."""
    places = {}
    for at, key in enumerate(keys):
        if key not in places:
            places[key] = at
    return [places[key] for key in keys]


def _lots_by_name(names):
    """The lots whose plots have these names, a list of tuples in ascending order."""
    return [tuple([plot for plot, own in enumerate(names) if own == name]) for name in sorted(set(names))]


def _labels_of_lots(plots, lots):
    """For each plot the index of its list; raise BadLots if the lists are not the lots of a parting."""
    labels = [None] * plots
    for at, lot in enumerate(lots):
        if len(lot) == 0:
            raise BadLots(at)
        for plot in lot:
            # The kind comes first: only a plot may be used as an index.
            if not is_place(plots, plot) or labels[plot] is not None:
                raise BadLots(at)
            labels[plot] = at
    if None in labels:
        raise BadLots(len(lots))
    return labels


def joined_names(first, mates):
    """The names of the finest parting that is coarser than the first and has each plot with its mate, a list."""
    names = list(first)
    for plot, mate in enumerate(mates):
        low = min(names[plot], names[mate])
        high = max(names[plot], names[mate])
        if low != high:
            names = [low if name == high else name for name in names]
    return names


def parting_text(parting):
    """The written form of the parting: its lots joined by bars, their plots by spaces."""
    return "|".join([" ".join([str(plot) for plot in lot]) for lot in parting.lots])


def read_parting(text):
    """The parting whose written form is the text."""
    lots = [part.split(" ") for part in text.split("|")]
    words = [word for lot in lots for word in lot]
    if len(words) > MOST_PLOTS or not all([is_decimal(word) and len(word) <= 2 for word in words]):
        raise BadText(text)
    if sorted([int(word) for word in words]) != list(range(len(words))):
        raise BadText(text)
    parting = Parting.from_lots(len(words), [[int(word) for word in lot] for lot in lots])
    # Leading zeros and a wrong order are left: only the written form itself is the same text.
    if parting_text(parting) != text:
        raise BadText(text)
    return parting


def all_partings(plots):
    """All partings of at most 5 plots, ascending by their names."""
    check_amount(plots, "plots")
    check_most(plots, "plots", _MOST_LISTED)
    found = [()]
    for plot in range(plots):
        found = [names + (name,) for names in found for name in sorted(set(names)) + [plot]]
    return [Parting(names) for names in found]
