"""Checks of results: a wait that is reached, the owners of a lockout, a tree that shows that no wait is longer."""

from barclips.bars import closed_numbers, closings
from barclips.errors import BadNumber
from barclips.gaps import is_gap
from barclips.grids import Grid
from barclips.plans import empty_plan

MOST_BARS = 64


def check_reach(stage, lead, setting, number, bars):
    """Tell whether so many bars in a row, from the one of this number on, are closed in the setting."""
    grids = closed_numbers(stage, lead, setting)
    if bars < 0 or bars > MOST_BARS:
        raise BadNumber(bars)
    return not any([is_gap(grids, number + index) for index in range(bars)])


def check_owners(stage, lead, setting, owners):
    """Tell whether the owners close all bars by turns."""
    met = {(name, place): numbers for name, place, numbers in closings(stage, lead, setting)}
    turns = len(owners)
    if turns == 0:
        return False
    return all([
        (name, place) in met and Grid(turns, index).within(met[(name, place)])
        for index, (name, place) in enumerate(owners)
    ])


def check_tree(stage, lead, tree, *, limit, number=None):
    """Tell whether the tree shows that no wait, or none at the bar of this number, is above the limit."""
    bars = stage.find_lead(lead).grid
    firsts = bars if number is None else bars.tick_of(number)
    return is_shown(empty_plan(stage, bars, bars.step, firsts), tree, limit)


def ways_in(branches):
    """Return the list of the ways of these branches, without what is below them."""
    return [(name, place, clip) for name, place, clip, _ in branches]


def is_shown(plan, tree, limit):
    """Tell whether the tree shows that no wait with the chosen ways of the plan is above the limit."""
    bar, branches = tree
    if bar < 0 or bar > limit or not plan.leaves_open(bar):
        return False
    expected = plan.branches(bar)
    # Only a branch for a track without a chosen way is gone into, so the depth has a bound.
    if ways_in(branches) != ways_in(expected):
        return False
    return all([is_shown(below[3], branch[3], limit) for branch, below in zip(branches, expected)])
