"""Partings beside each other: finer and coarser, meets, joins and the paths of a join."""

from crossmeans.checks import check_alike, check_amount, check_most, check_plot, is_place
from crossmeans.errors import NoPlots
from crossmeans.partings import Parting


def is_finer(first, second):
    """True if each lot of the first parting lies within one lot of the second."""
    check_alike(first.plots, [second])
    return all([second.names[plot] == second.names[name] for plot, name in enumerate(first.names)])


def is_strictly_finer(first, second):
    """True if the first parting is finer than the second and not equal to it."""
    return is_finer(first, second) and first != second


def are_comparable(first, second):
    """True if one of the partings is finer than the other."""
    return is_finer(first, second) or is_finer(second, first)


def meet_all(partings, *, plots=None):
    """The meet of all the partings; the one-lot parting of the plots for an empty list."""
    met = Parting.one(_common_plots(partings, plots))
    for parting in partings:
        met = met & parting
    return met


def join_all(partings, *, plots=None):
    """The join of all the partings; the parting into single plots for an empty list."""
    joined = Parting.single(_common_plots(partings, plots))
    for parting in partings:
        joined = joined | parting
    return joined


def _common_plots(partings, plots):
    """The count of plots of a list that may be empty if the count is told beside it."""
    check_most(len(partings), "partings")
    if plots is not None:
        check_amount(plots, "plots")
        check_alike(plots, partings)
        return plots
    if len(partings) == 0:
        raise NoPlots()
    check_alike(partings[0].plots, partings)
    return partings[0].plots


def join_path(first, second, start, goal):
    """The least of the shortest paths from start to goal, a tuple, or None if there is none."""
    _check_ends(first, second, start, goal)
    steps = _steps_to(first, second, goal)
    if steps[start] is None:
        return None
    path = [start]
    for left in range(steps[start] - 1, -1, -1):
        # The least plot that is one step nearer to the goal: any such plot keeps the path shortest.
        nearer = [plot for plot in range(first.plots) if steps[plot] == left and _linked(first, second, path[-1], plot)]
        path.append(nearer[0])
    return tuple(path)


def is_join_path(first, second, start, goal, path):
    """True if the value is a path from start to goal."""
    _check_ends(first, second, start, goal)
    if not isinstance(path, tuple) or len(path) == 0:
        return False
    # Kinds come first, so that True is not taken for the plot 1.
    if not all([is_place(first.plots, plot) for plot in path]):
        return False
    if path[0] != start or path[-1] != goal:
        return False
    return all([_linked(first, second, left, right) for left, right in zip(path, path[1:])])


def _check_ends(first, second, start, goal):
    """Raise the errors of two partings and two plots; the first parting tells the count of plots."""
    check_plot(first.plots, start)
    check_plot(first.plots, goal)
    check_alike(first.plots, [second])


def _linked(first, second, left, right):
    """True if a path may go from the left plot to the right one in one step."""
    return left != right and (first.together(left, right) or second.together(left, right))


def _steps_to(first, second, goal):
    """For each plot the count of steps of a shortest path to the goal, or None if there is no path."""
    steps = [None] * first.plots
    steps[goal] = 0
    reached = [goal]
    count = 0
    while reached:
        count += 1
        unseen = [plot for plot in range(first.plots) if steps[plot] is None]
        reached = [plot for plot in unseen if any([_linked(first, second, plot, near) for near in reached])]
        for plot in reached:
            steps[plot] = count
    return steps
