"""Checks that several modules share: kinds of values, amounts and counts of plots."""

from crossmeans.errors import BadPlot, NoPlots, RepeatedMember, TooMany, UnlikePlots

# One limit for all of these: plots, partings, members and rows.
MOST = 16


def is_whole(value):
    """True if the value is a whole number; True and False are integers to Python, but not here."""
    return isinstance(value, int) and not isinstance(value, bool)


def is_decimal(text):
    """True if the text is made of the digits 0 to 9 and is not empty."""
    return text != "" and all([sign in "0123456789" for sign in text])


def is_plot(plots, value):
    """True if the value is one of so many plots, whatever its kind is."""
    return is_whole(value) and 0 <= value < plots


def check_most(amount, what):
    """Raise TooMany if the amount is above the limit."""
    if amount > MOST:
        raise TooMany(what, MOST)


def check_amount(amount, what):
    """Raise NoPlots if the amount is below 1, TooMany if it is above the limit."""
    if amount < 1:
        raise NoPlots()
    check_most(amount, what)


def check_plot(plots, value):
    """Raise BadPlot if the value is not one of so many plots."""
    if not is_plot(plots, value):
        raise BadPlot(value)


def check_lot(plots, lot):
    """Raise BadPlot for the first entry of the list that is not one of so many plots."""
    for value in lot:
        check_plot(plots, value)


def check_alike(plots, things):
    """Raise UnlikePlots for the first thing with another count of plots than the reference."""
    for thing in things:
        if thing.plots != plots:
            raise UnlikePlots(plots, thing.plots)


def check_partings(partings):
    """Raise the errors of a list of partings that stands alone and must not be empty."""
    check_amount(len(partings), "partings")
    check_alike(partings[0].plots, partings)


def check_members(members):
    """Raise the errors of a list of unequal partings that stands alone."""
    check_amount(len(members), "partings")
    for at, member in enumerate(members):
        if member in members[:at]:
            raise RepeatedMember(at)
    check_alike(members[0].plots, members)
