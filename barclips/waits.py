"""How long a lead that is held may be kept waiting, over all settings of a stage."""

from barclips.bars import verdict
from barclips.plans import empty_plan, explore


class Wait:
    """The greatest wait, with a setting and a bar that have it, and why no wait is greater."""

    def __init__(self, bars, number, setting, owners, tree):
        self.bars = bars
        self.number = number
        self.setting = setting
        self.owners = owners
        self.tree = tree

    @property
    def forever(self):
        """True if the wait is endless."""
        return self.bars is None


def greatest_wait(stage, lead, firsts):
    """Return the greatest wait at the possible first bars: a grid of ticks, or a single tick."""
    bars = stage.find_lead(lead).grid
    wait, plan, tree = explore(empty_plan(stage, bars, bars.step, firsts))
    tick, setting = plan.first_tick(), plan.as_setting()
    owners = verdict(stage, lead, setting, tick).owners if wait is None else None
    return Wait(wait, bars.number_of(tick), setting, owners, tree)


def longest(stage, lead):
    """Return the greatest wait over all settings and all bars of the lead."""
    return greatest_wait(stage, lead, stage.find_lead(lead).grid)


def worst(stage, lead, number):
    """Return the greatest wait over all settings at the bar of this number."""
    return greatest_wait(stage, lead, stage.find_lead(lead).grid.tick_of(number))
