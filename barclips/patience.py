"""Presses with a patience: which of them may be swallowed, and the latest one that may not."""

from itertools import combinations

from barclips.errors import BadNumber
from barclips.plans import empty_plan, explore
from barclips.sounds import Lead
from barclips.waits import longest


def check_patience(patience):
    """Refuse what is no patience."""
    if patience < 1 or patience > Lead.PATIENCE:
        raise BadNumber(patience)


def outlasts(wait, patience):
    """Tell whether the wait lasts for all bars that a press with this patience tries."""
    return wait.forever or wait.bars >= patience


def swallowing(stage, lead, patience):
    """Return a tuple (number, setting) in which a press with this patience is swallowed, or None."""
    stage.find_lead(lead)
    check_patience(patience)
    wait = longest(stage, lead)
    return (wait.number, wait.setting) if outlasts(wait, patience) else None


def enough(stage, lead):
    """Return the least patience with which no press is swallowed, or None if there is none."""
    wait = longest(stage, lead)
    return None if wait.forever else wait.bars + 1


def latest(stage, lead, tick):
    """Return the greatest tick after which, and not after this one, some bar is always open, or None."""
    bars = stage.find_lead(lead).grid
    last = bars.at_or_before(tick)
    wait = explore(empty_plan(stage, bars, -bars.step, last))[0]
    # In some setting so many bars up to the last one are closed, and never more.
    return None if wait is None else last - wait * bars.step - 1


def silence(stage, lead, patience):
    """Return the names of the fewest tracks without which no press with this patience is swallowed."""
    stage.find_lead(lead)
    check_patience(patience)
    names = [track.name for track in stage.tracks]
    # Without all tracks every bar is open, so one of these lists will do.
    for size in range(len(names) + 1):
        for chosen in combinations(names, size):
            if not outlasts(longest(stage.without(*chosen), lead), patience):
                return list(chosen)
