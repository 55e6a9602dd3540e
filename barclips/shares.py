"""How many gaps a list of grids has."""

from math import gcd, lcm

from barclips.errors import BadNumber
from barclips.gaps import check_grids
from barclips.grids import Grid


def signed_commons(grids):
    """Return tuples (sign, grid) with which gaps are counted.

    There is a tuple for each choice of grids that have a common tick: the grid of their common
    ticks, with the sign 1 for an even number of grids and -1 for an odd one. The signs of those
    that contain an integer add up to 1 if it is a gap of the list, and to 0 otherwise.
    """
    chosen = [(1, Grid(1))]
    for grid in grids:
        joined = [(-sign, Grid.common(before, grid)) for sign, before in chosen]
        chosen = chosen + [(sign, both) for sign, both in joined if both is not None]
    return chosen


def count_between(signed, low, high):
    """Return the number of gaps x with low <= x < high."""
    return sum([sign * grid.between(low, high) for sign, grid in signed])


def share_of(signed):
    """Return the share of the gaps among the integers, in lowest terms."""
    cycle = 1
    for _, grid in signed:
        cycle = lcm(cycle, grid.step)
    gaps = sum([sign * (cycle // grid.step) for sign, grid in signed])
    divisor = gcd(gaps, cycle)
    return (gaps // divisor, cycle // divisor)


def gaps_between(grids, low, high):
    """Return the number of gaps x with low <= x < high."""
    check_grids(grids)
    return count_between(signed_commons(grids), low, high)


def gap_share(grids):
    """Return the share of the gaps among the integers as a tuple (numerator, denominator)."""
    check_grids(grids)
    return share_of(signed_commons(grids))


def nth_gap(grids, start, count):
    """Return the gap that has exactly `count` gaps from start on before it, or None."""
    check_grids(grids)
    if count < 0:
        raise BadNumber(count)
    signed = signed_commons(grids)
    gaps, cycle = share_of(signed)
    if gaps == 0:
        return None
    # Among n integers in a row, the number of ticks of a grid is less than 1 away from n / step.
    # So the number of gaps among them is less than `slack` away from n * gaps / cycle.
    slack = len(signed)
    low = start + max(0, count - slack) * cycle // gaps
    high = start + (count + slack) * cycle // gaps + 1
    # At most `count` gaps lie before low, and more than `count` before high.
    while high - low > 1:
        middle = (low + high) // 2
        if count_between(signed, start, middle) > count:
            high = middle
        else:
            low = middle
    return low
