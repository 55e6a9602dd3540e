"""What several test files need: lists of grids, and their gaps counted one by one."""

import unittest
from math import lcm

from barclips.errors import TooMany
from barclips.grids import Grid

FAR = 10**399
NEAR = (-FAR - 1, -FAR, -FAR + 1, -65, -8, -3, -1, 0, 1, 2, 3, 7, 8, 64, FAR - 1, FAR, FAR + 1)


def pairs(grids):
    return [(grid.step, grid.offset) for grid in grids]


def holds(grid, integer):
    return (integer - grid.offset) % grid.step == 0


def is_gap(grids, integer):
    return not any(holds(grid, integer) for grid in grids)


def gaps_of(grids, low, high):
    return [integer for integer in range(low, high) if is_gap(grids, integer)]


def period_of(grids):
    return lcm(*[grid.step for grid in grids])


def split(grids, index, parts):
    """The list in which the grid at the index is replaced by that many grids."""
    grid = grids[index]
    new = [Grid(grid.step * parts, grid.offset + grid.step * part) for part in range(parts)]
    return list(grids[:index]) + new + list(grids[index + 1:])


def halves(count):
    """Grids with the steps 2, 4, 8 .. that leave one gap in 2^count integers."""
    return [Grid(2**(at + 1), 2**at - 1) for at in range(count)]


def all_splits(most):
    """All lists of at most so many grids that are made from Grid(1) by splits by 2, 3 and 5."""
    found = {}
    waiting = [[Grid(1)]]
    while waiting:
        grids = waiting.pop()
        key = tuple(sorted(pairs(grids)))
        if key in found or len(grids) > most:
            continue
        found[key] = grids
        for index in range(len(grids)):
            waiting.extend(split(grids, index, parts) for parts in (2, 3, 5))
    return list(found.values())


def covers():
    """Lists of grids that contain every integer."""
    lists = all_splits(6)
    lists.append(halves(5) + [Grid(32, 31)])
    lists.append([Grid(32, 31)] + halves(5)[::-1])
    lists.append([Grid(2), Grid(3), Grid(4, 1), Grid(6, 1), Grid(12, 11)])
    lists.append([Grid(2), Grid(2), Grid(2, 1), Grid(2, 1)])
    lists.append([Grid(4, 3), Grid(2), Grid(4, 3), Grid(4, 1), Grid(2)])
    lists.append([Grid(FAR + 1, 5), Grid(3), Grid(3, 2), Grid(3, 1), Grid(FAR, 7)])
    lists.append([Grid(FAR), Grid(1), Grid(1)])
    return lists


def lists_with_one_left_out():
    """The same lists without one of their grids; a few of them still contain every integer."""
    found = {}
    for grids in covers():
        for index in range(len(grids)):
            fewer = grids[:index] + grids[index + 1:]
            found[tuple(pairs(fewer))] = fewer
    return list(found.values())


def gappy_lists():
    """Lists whose gaps lie far apart, overlap or have no common ticks, with small steps."""
    return [
        [],
        [Grid(2)],
        [Grid(7, 3)],
        [Grid(6, 1), Grid(4, 3)],
        [Grid(3), Grid(3), Grid(3)],
        [Grid(2), Grid(3), Grid(5), Grid(7)],
        [Grid(4), Grid(6), Grid(9, 1), Grid(10, 3)],
        halves(5),
        halves(6),
        halves(5) + [Grid(96, 31)],
        halves(4) + [Grid(5), Grid(3)],
        [Grid(2), Grid(3, 1), Grid(4, 1), Grid(5, 2), Grid(6, 3), Grid(7, 4)],
        [Grid(6), Grid(10, 5), Grid(15, 7), Grid(2, 1), Grid(12, 4), Grid(20, 18)],
    ]


def small_lists():
    """All of these lists whose gaps can be counted one by one over a whole period."""
    lists = covers() + lists_with_one_left_out() + gappy_lists()
    return [grids for grids in lists if period_of(grids) <= 500]


class GridTests(unittest.TestCase):
    """Assertions that do not rely on the equality of grids."""

    def assert_grid(self, grid, step, offset):
        self.assertIsInstance(grid, Grid)
        self.assertEqual((grid.step, grid.offset), (step, offset))

    def assert_raises_with(self, error, values, call, *args, **named):
        """The call raises exactly this error, with these attributes, and changes nothing."""
        things = [getattr(call, "__self__", None), *args, *named.values()]
        before = [state(thing) for thing in things]
        with self.assertRaises(error) as caught:
            call(*args, **named)
        self.assertIs(type(caught.exception), error)
        for name, value in values.items():
            self.assertEqual(state(getattr(caught.exception, name)), state(value))
        self.assertEqual([state(thing) for thing in things], before)


class ListPromises:
    """Point 8, for a test case whose `calls` are functions of a list of grids."""

    calls = ()

    def test_more_grids_are_refused(self):
        for count in (7, 8, 20, 1000):
            for grids in ([Grid(2)] * count, (Grid(1),) * count, [Grid(FAR + at) for at in range(count)]):
                for call in self.calls:
                    self.assert_raises_with(TooMany, {"kind": "grids", "most": 6}, call, grids)

    def test_tuples_are_taken(self):
        for grids in small_lists():
            for call in self.calls:
                self.assertEqual(call(tuple(grids)), call(grids))

    def test_arguments_are_unchanged(self):
        for grids in small_lists():
            items, shapes = list(grids), pairs(grids)
            for call in self.calls:
                call(grids)
            self.assertEqual(len(grids), len(items))
            self.assertTrue(all(grid is item for grid, item in zip(grids, items)))
            self.assertEqual(pairs(grids), shapes)


def state(value):
    """A value that changes if the given one is changed."""
    if isinstance(value, (list, tuple)):
        return (type(value).__name__, [state(item) for item in value])
    if type(value).__module__.startswith("barclips."):
        return (type(value).__name__, [(name, state(worth)) for name, worth in sorted(vars(value).items())])
    return value
