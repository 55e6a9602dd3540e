"""How many bars of a lead are open."""

from barclips.bars import bar_from, closed_numbers
from barclips.partings import parting
from barclips.shares import gap_share, gaps_between, nth_gap


def tick_of_bar(bars, number):
    """Return the tick of the bar of this number, or None if there is no number."""
    return None if number is None else bars.tick_of(number)


def open_between(stage, lead, setting, low, high):
    """Return the number of open bars at ticks t with low <= t < high."""
    bars = stage.find_lead(lead).grid
    return gaps_between(closed_numbers(stage, lead, setting), bar_from(bars, low), bar_from(bars, high))


def nth_open(stage, lead, setting, since, count):
    """Return the tick of the open bar with `count` open bars from since on before it, or None."""
    bars = stage.find_lead(lead).grid
    return tick_of_bar(bars, nth_gap(closed_numbers(stage, lead, setting), bar_from(bars, since), count))


def open_share(stage, lead, setting):
    """Return the share of the open bars as a tuple (numerator, denominator)."""
    return gap_share(closed_numbers(stage, lead, setting))


def bar_parting(stage, lead, first, second, since):
    """Return the tick of the first bar from since on that is open in exactly one setting, or None."""
    bars = stage.find_lead(lead).grid
    one, other = closed_numbers(stage, lead, first), closed_numbers(stage, lead, second)
    return tick_of_bar(bars, parting(one, other, bar_from(bars, since)))
