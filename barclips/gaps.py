"""The gaps of a list of grids: the integers that no grid of the list contains."""

from barclips.errors import TooMany
from barclips.grids import Grid

MOST_GRIDS = 6


def check_grids(grids):
    """Refuse a list of too many grids."""
    if len(grids) > MOST_GRIDS:
        raise TooMany("grids", MOST_GRIDS)


def is_gap(grids, integer):
    """Tell whether no grid of the list contains the integer."""
    return not any([integer in grid for grid in grids])


def first_gap(grids, start):
    """Return the least gap that is not less than start, or None if the list has no gap."""
    check_grids(grids)
    # k grids that contain 2^k integers in a row contain every integer.
    for integer in range(start, start + (1 << len(grids))):
        if is_gap(grids, integer):
            return integer
    return None


def cycle_of(grids):
    """Return the shortest cycle of indexes of grids that contain every integer, or None."""
    check_grids(grids)
    # k grids without a gap have a cycle of at most 2^(k - 1) indexes.
    for size in range(1, (1 << len(grids)) // 2 + 1):
        owners = owners_of(grids, size)
        if owners is not None:
            return owners
    return None


def owners_of(grids, size):
    """Return the cycle of this size, or None if there is none."""
    owners = []
    for remainder in range(size):
        owner = first_around(grids, Grid(size, remainder))
        if owner is None:
            return None
        owners.append(owner)
    return owners


def first_around(grids, inner):
    """Return the least index of a grid that contains all ticks of the inner one, or None."""
    for index, grid in enumerate(grids):
        if inner.within(grid):
            return index
    return None


def needless(grids):
    """Return the indexes of the grids all of whose ticks are on other grids of the list."""
    check_grids(grids)
    return [index for index in range(len(grids)) if is_needless(grids, index)]


def is_needless(grids, index):
    """Tell whether all ticks of the grid at this index are on grids at other indexes."""
    others = [grid for at, grid in enumerate(grids) if at != index]
    return first_gap_on(grids[index], others, 0) is None


def first_gap_on(grid, others, start):
    """Return the least tick of the grid, not less than start, that is a gap of the others, or None."""
    first = grid.number_of(grid.at_or_after(start))
    # The numbers of the ticks that are on another grid form a grid, or there are none. So the
    # k other grids contain every tick if they contain those of 2^k numbers in a row.
    for number in range(first, first + (1 << len(others))):
        tick = grid.tick_of(number)
        if is_gap(others, tick):
            return tick
    return None
