"""Checks that several modules share: kinds of values, amounts and counts of plots."""

from crossmeans.errors import (BadIndex, BadLabel, BadName, BadPlot, NoPlots, RepeatedMember, RepeatedName, TooMany,
                               UnlikePlots)

# One limit for all of these: plots, partings, members and rows.
MOST = 16
_LETTERS = "abcdefghijklmnopqrstuvwxyz"
_DIGITS = "0123456789"
# What a factor name is made of.
NAME_SIGNS = "abcdefghijklmnopqrstuvwxyz0123456789"
_LONGEST_NAME = 6


def is_whole(value):
    """True if the value is a whole number; True and False are integers to Python, but not here."""
    return isinstance(value, int) and not isinstance(value, bool)


def is_decimal(text):
    """True if the text is made of the digits 0 to 9 and is not empty."""
    return text != "" and all([sign in _DIGITS for sign in text])


def is_place(count, value):
    """True if the value is a whole number from 0 to the count minus 1, whatever its kind is."""
    return is_whole(value) and 0 <= value < count


def is_factor_name(value):
    """True if the value is 1 to 6 lower-case letters and digits, a letter first, whatever its kind is."""
    if not isinstance(value, str) or not 1 <= len(value) <= _LONGEST_NAME:
        return False
    return value[0] in _LETTERS and all([sign in NAME_SIGNS for sign in value])


def check_names(names):
    """Raise BadName or RepeatedName for the first entry that is not a new factor name."""
    for at, name in enumerate(names):
        if not is_factor_name(name):
            raise BadName(name)
        if name in names[:at]:
            raise RepeatedName(name)


def check_label(value, at):
    """Raise BadLabel with the place that is told if the value is neither a whole number nor a text."""
    if not is_whole(value) and not isinstance(value, str):
        raise BadLabel(at)


def check_most(amount, what, most=MOST):
    """Raise TooMany if the amount is above the limit."""
    if amount > most:
        raise TooMany(what, most)


def check_amount(amount, what, most=MOST):
    """Raise NoPlots if the amount is below 1, TooMany if it is above the limit."""
    if amount < 1:
        raise NoPlots()
    check_most(amount, what, most)


def check_plot(plots, value):
    """Raise BadPlot if the value is not one of so many plots."""
    if not is_place(plots, value):
        raise BadPlot(value)


def check_index(count, value):
    """Raise BadIndex if the value is not an index of a list with so many entries."""
    if not is_place(count, value):
        raise BadIndex(value)


def check_lot(plots, lot):
    """Raise BadPlot for the first entry of the list that is not one of so many plots."""
    for value in lot:
        check_plot(plots, value)


def check_counts(plots, counts):
    """Raise UnlikePlots for the first count of plots that is not the reference."""
    for count in counts:
        if count != plots:
            raise UnlikePlots(plots, count)


def check_alike(plots, things):
    """Raise UnlikePlots for the first thing with another count of plots than the reference."""
    check_counts(plots, [thing.plots for thing in things])


def check_partings(partings):
    """Raise the errors of a list of partings that stands alone and must not be empty."""
    check_amount(len(partings), "partings")
    check_alike(partings[0].plots, partings)


def check_unequal(members):
    """Raise the errors of a list of unequal partings, but not yet those of their counts of plots."""
    check_amount(len(members), "partings")
    for at, member in enumerate(members):
        if member in members[:at]:
            raise RepeatedMember(at)


def check_members(members):
    """Raise the errors of a list of unequal partings that stands alone."""
    check_unequal(members)
    check_alike(members[0].plots, members)
