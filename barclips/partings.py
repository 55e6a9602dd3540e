"""Where the gaps of two lists of grids part."""

from barclips.gaps import check_grids, first_gap_on


def parting(first, second, start):
    """Return the least integer from start on that is a gap of exactly one of the lists, or None."""
    check_grids(first)
    check_grids(second)
    # A gap of exactly one list is on a grid of the other one.
    found = [first_gap_on(grid, second, start) for grid in first]
    found = found + [first_gap_on(grid, first, start) for grid in second]
    return min([tick for tick in found if tick is not None], default=None)
