"""All errors that the program raises, also those of later modules."""


class CrossError(ValueError):
    """The base class of all errors of the program; it is not raised itself."""

    def class_name(self):
        """The name of the class of the error, as scripts tell it."""
        return self.__class__.__name__


class InputError(CrossError):
    """The base class of errors about what was passed."""


class LimitError(CrossError):
    """The base class of errors about what is too much."""


class AnswerError(CrossError):
    """The base class of errors where what was asked for does not exist."""


class NoPlots(InputError):
    """There are no plots, or a list that must not be empty is empty."""


class UnlikePlots(InputError):
    """Two things with unequal counts of plots were brought together."""

    def __init__(self, left_plots, right_plots):
        self.left_plots = left_plots
        self.right_plots = right_plots


class BadLabel(InputError):
    """A label is of a wrong kind."""

    def __init__(self, at):
        self.at = at


class BadPlot(InputError):
    """A value is not one of the plots."""

    def __init__(self, plot):
        self.plot = plot


class BadLots(InputError):
    """Some lists are not the lots of a parting."""

    def __init__(self, at):
        self.at = at


class BadNumber(InputError):
    """A value is not a number."""

    def __init__(self, at):
        self.at = at


class BadIndex(InputError):
    """A value is not an index of what it points into."""

    def __init__(self, at):
        self.at = at


class BadText(InputError):
    """A text is not a written form."""

    def __init__(self, text):
        self.text = text


class BadOrder(InputError):
    """A list is not an order of the partings beside it."""


class BadPaper(InputError):
    """A paper does not show what it must show."""


class BadShape(InputError):
    """Lengths do not fit each other."""


class RepeatedMember(InputError):
    """A member is equal to an earlier one."""

    def __init__(self, at):
        self.at = at


class ZeroDivisor(InputError):
    """A number was to be divided by zero."""


class ZeroTable(InputError):
    """A table has zeros only where it must not."""


class BadName(InputError):
    """A value is not a factor name."""

    def __init__(self, name):
        self.name = name


class RepeatedName(InputError):
    """A name occurred before."""

    def __init__(self, name):
        self.name = name


class UnknownName(InputError):
    """A name is not one of those that are known."""

    def __init__(self, name):
        self.name = name


class BadTerm(InputError):
    """A list of names is not a term of the formula."""


class BadFormula(InputError):
    """A text is not a formula."""

    def __init__(self, at):
        self.at = at


class BadTree(InputError):
    """A value is not a tree of factors."""


class BadSizes(InputError):
    """An entry is not a new name with its levels."""

    def __init__(self, at):
        self.at = at


class BadArrangement(InputError):
    """A list does not have each plot once."""

    def __init__(self, at):
        self.at = at


class BadPrime(InputError):
    """A prime cannot be used here."""

    def __init__(self, number):
        self.number = number


class BadWord(InputError):
    """A list is not a word."""

    def __init__(self, at):
        self.at = at


class BadWish(InputError):
    """A list is not a wish."""


class BadWeight(InputError):
    """A weight is negative."""

    def __init__(self, at):
        self.at = at


class BadLine(InputError):
    """A line of a script is no deed."""

    def __init__(self, line):
        self.line = line


class TooMany(LimitError):
    """There is more of something than the limit allows."""

    def __init__(self, what, limit):
        self.what = what
        self.limit = limit


class NotOrthogonal(AnswerError):
    """Two partings are not orthogonal."""

    def __init__(self, first, second):
        self.first = first
        self.second = second


class NoDealing(AnswerError):
    """There is no such dealing."""


class NoDesign(AnswerError):
    """There is no such design."""


class NoMend(AnswerError):
    """There is no such set of lost plots."""


class NotEstimable(AnswerError):
    """A wish cannot be estimated."""

    def __init__(self, paper):
        self.paper = paper


class NotPlaced(AnswerError):
    """An effect member is placed in no stratum."""

    def __init__(self, at):
        self.at = at


class NothingToUndo(AnswerError):
    """There is no edit to undo."""
