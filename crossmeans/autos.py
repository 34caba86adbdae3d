"""Arrangements of plots: what they keep, groups of them, and orbits of plots and of pairs."""

from crossmeans.checks import check_alike, check_amount, check_counts, check_most, check_partings, is_place
from crossmeans.errors import BadArrangement, TooMany
from crossmeans.partings import Parting, joined_names
from crossmeans.ratios import over, times, total
from crossmeans.tables import Table

_MOST_ARRANGEMENTS = 400
_MOST_AVERAGED = 72
# Pairs and groups of plots are gone through for this many plots only.
_MOST_SEARCHED = 8


def check_arrangement(arrangement):
    """Raise the errors of one arrangement."""
    check_amount(len(arrangement), "plots")
    for at, value in enumerate(arrangement):
        if not is_place(len(arrangement), value) or value in arrangement[:at]:
            raise BadArrangement(at)


def check_arrangements(arrangements):
    """Raise the errors of a list of arrangements, but not yet those of their counts of plots."""
    check_amount(len(arrangements), "arrangements", _MOST_ARRANGEMENTS)
    for arrangement in arrangements:
        check_arrangement(arrangement)


def _lengths(arrangements):
    return [len(arrangement) for arrangement in arrangements]


def compose(first, second):
    """First the one arrangement, then the other."""
    check_arrangement(first)
    check_arrangement(second)
    check_counts(len(first), [len(second)])
    return tuple([second[image] for image in first])


def inverse(arrangement):
    """The arrangement that takes each plot back."""
    check_arrangement(arrangement)
    back = [0] * len(arrangement)
    for plot, image in enumerate(arrangement):
        back[image] = plot
    return tuple(back)


def keeps(arrangement, parting):
    """True if plots are in one lot exactly if their images are."""
    return move_parting(arrangement, parting) == parting


def move_table(arrangement, table):
    """The table that has each cell at the image of its plot."""
    back = inverse(arrangement)
    check_alike(len(back), [table])
    return Table([table.cells[plot] for plot in back])


def move_parting(arrangement, parting):
    """The parting with the images of plots in one lot exactly if the plots are in one lot."""
    back = inverse(arrangement)
    check_alike(len(back), [parting])
    return Parting([parting.names[plot] for plot in back])


def rearrangements(partings, *, limit=400):
    """All arrangements that keep each of the partings, ascending."""
    check_amount(len(partings), "partings")
    check_most(limit, "limit", _MOST_ARRANGEMENTS)
    check_alike(partings[0].plots, partings)
    check_most(partings[0].plots, "plots", _MOST_SEARCHED)
    classes = pair_classes(partings)
    images = [_possible_images(partings, plot) for plot in range(partings[0].plots)]
    found = []
    # The least beginning is always the last one of the list.
    begun = [()]
    while begun:
        taken = begun.pop()
        if len(taken) == len(images):
            found.append(taken)
            if len(found) > limit:
                raise TooMany("rearrangements", limit)
        else:
            begun.extend([taken + (image,) for image in images[len(taken)] if _fits(classes, taken, image)])
    return found


def _possible_images(partings, plot):
    """The plots, descending, that are in lots of the same sizes as the plot."""
    sizes = [[len(parting.lot_of(other)) for parting in partings] for other in range(partings[0].plots)]
    return [image for image in reversed(range(len(sizes))) if sizes[image] == sizes[plot]]


def _fits(classes, taken, image):
    """True if the next plot may go to the image: it is alike to each plot before it as their images are."""
    if image in taken:
        return False
    plot = len(taken)
    return all([classes[plot][other] == classes[image][near] for other, near in enumerate(taken)])


def orbits(arrangements):
    """The finest parting with each plot and all its images in one lot."""
    check_arrangements(arrangements)
    check_counts(len(arrangements[0]), _lengths(arrangements))
    names = list(range(len(arrangements[0])))
    for arrangement in arrangements:
        names = joined_names(names, arrangement)
    return Parting(names)


def pair_orbits(arrangements):
    """Equal numbers for the ordered pairs of plots that the arrangements take to each other."""
    check_arrangements(arrangements)
    plots = len(arrangements[0])
    check_counts(plots, _lengths(arrangements))
    check_most(plots, "plots", _MOST_SEARCHED)
    # The pair (p, q) has the number p * plots + q.
    names = list(range(plots * plots))
    for arrangement in arrangements:
        names = joined_names(names, [left * plots + right for left in arrangement for right in arrangement])
    return _numbered([names[plot * plots:(plot + 1) * plots] for plot in range(plots)])


def pair_classes(partings):
    """Equal numbers for the ordered pairs of plots that are in one lot in the same partings."""
    check_partings(partings)
    plots = list(range(partings[0].plots))
    return _numbered([[tuple([parting.together(plot, other) for parting in partings]) for other in plots]
                      for plot in plots])


def _numbered(rows):
    """The rows with each key replaced by a number that counts from 0 in the order of first occurrence."""
    numbers = {}
    for row in rows:
        for key in row:
            if key not in numbers:
                numbers[key] = len(numbers)
    return [[numbers[key] for key in row] for row in rows]


def average_products(arrangements, table):
    """The means over the arrangements of the products of the cells at the images of two plots."""
    check_arrangements(arrangements)
    check_counts(len(arrangements[0]), _lengths(arrangements) + [table.plots])
    check_most(len(arrangements), "arrangements", _MOST_AVERAGED)
    check_most(table.plots, "plots", _MOST_SEARCHED)
    plots = list(range(table.plots))
    products = [[times(left, right) for right in table.cells] for left in table.cells]
    return [[_average([products[images[row]][images[column]] for images in arrangements]) for column in plots]
            for row in plots]


def _average(numbers):
    return over(total(numbers), len(numbers))
