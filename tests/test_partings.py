"""Points 2, 8 and 13: where the gaps of two lists of grids part."""

import random
import unittest
from math import lcm

from barclips.errors import TooMany
from barclips.grids import Grid
from barclips.partings import parting
from tests.helpers import (
    FAR, GridTests, ListPromises, covers, gappy_lists, halves, is_gap, pairs, period_of, small_lists, split,
)

STARTS = (-FAR, -1000, -2, -1, 0, 1, 31, 64, FAR)


def by_definition(first, second, start):
    """The parting, found integer by integer over a whole period."""
    for integer in range(start, start + lcm(period_of(first), period_of(second))):
        if is_gap(first, integer) != is_gap(second, integer):
            return integer
    return None


class ListTests(ListPromises, GridTests):
    """Point 8, for both lists."""

    calls = (
        lambda grids: parting(grids, [Grid(3)], -5),
        lambda grids: parting([Grid(3)], grids, -5),
        lambda grids: parting(grids, grids, -5),
    )

    def test_six_grids_are_taken_on_both_sides(self):
        self.assertEqual(parting([Grid(2)] * 6, [Grid(3)] * 6, 0), 2)
        self.assertIsNone(parting([Grid(2)] * 6, [Grid(2)] * 6, 0))
        self.assertEqual(parting([Grid(FAR + at) for at in range(6)], [Grid(FAR)] * 6, 1), FAR + 1)

    def test_more_grids_are_refused_beside_an_empty_list(self):
        for many in ([Grid(2)] * 7, (Grid(1),) * 8):
            for first, second in ((many, []), ([], many), (many, many)):
                self.assert_raises_with(TooMany, {"kind": "grids", "most": 6}, parting, first, second, 0)

    def test_arguments_have_their_names(self):
        self.assertEqual(parting(first=[Grid(2)], second=[], start=5), 6)


class SameGapsTests(GridTests):
    def assert_same(self, first, second):
        for start in STARTS:
            self.assertIsNone(parting(first, second, start))
            self.assertIsNone(parting(second, first, start))

    def test_a_list_with_itself(self):
        for grids in small_lists()[::17] + gappy_lists() + [[Grid(FAR)], [Grid(FAR + at, at) for at in range(6)]]:
            self.assert_same(grids, list(grids))
            self.assert_same(grids, grids[::-1])

    def test_a_grid_is_replaced_by_grids_that_cover_it(self):
        for grids in small_lists()[::17] + gappy_lists() + [[Grid(FAR)], [Grid(FAR, 3), Grid(FAR + 1), Grid(7)]]:
            for index in range(len(grids)):
                for parts in (2, 3, 4, 5, 6):
                    other = split(grids, index, parts)
                    if len(other) <= 6:
                        self.assert_same(grids, other)

    def test_lists_without_a_gap(self):
        lists = covers()[::5]
        for at, grids in enumerate(lists):
            self.assert_same(grids, [Grid(1)])
            self.assert_same(grids, lists[at - 1])

    def test_a_needless_grid_more(self):
        self.assert_same([Grid(2)], [Grid(2), Grid(FAR * 4, FAR * 2)])
        self.assert_same([Grid(FAR, 5)], [Grid(FAR, 5), Grid(FAR * 3, FAR + 5), Grid(FAR, 5)])
        self.assert_same([Grid(2), Grid(3), Grid(6, 5)], [Grid(6, at) for at in (0, 2, 3, 4, 5)])

    def test_empty_lists(self):
        self.assert_same([], [])


class PartingTests(GridTests):
    def assert_parting(self, first, second, start, expected):
        self.assertEqual(parting(first, second, start), expected)
        self.assertEqual(parting(second, first, start), expected)
        self.assertEqual(parting(tuple(first[::-1]), second[::-1], start), expected)

    def test_against_integers_tried_one_by_one(self):
        lists = [grids for grids in small_lists() if period_of(grids) <= 60][::13]
        numbers = random.Random(13)
        for grids in lists:
            for other in [numbers.choice(lists) for _ in range(9)]:
                for start in (-70, -1, 0, 17):
                    self.assert_parting(grids, other, start, by_definition(grids, other, start))

    def test_one_grid_changed(self):
        for grids in [found for found in covers()[::11] + gappy_lists() if period_of(found) <= 120]:
            for index, grid in enumerate(grids):
                for new in (grid * 2, grid + 1, grid * 3 + grid.step, Grid(1)):
                    other = grids[:index] + [new] + grids[index + 1:]
                    for start in (-33, 0, 5):
                        self.assert_parting(grids, other, start, by_definition(grids, other, start))

    def test_one_side_is_empty(self):
        for start in STARTS:
            self.assert_parting([], [Grid(1)], start, start)
            self.assert_parting([], [Grid(7, 3)], start, start + (3 - start) % 7)
            self.assert_parting([], [Grid(2), Grid(FAR), Grid(FAR + 1)], start, start + start % 2)
            self.assert_parting([], [Grid(FAR)] * 6, start, -(-start // FAR) * FAR)

    def test_the_parting_may_be_the_start(self):
        self.assert_parting([Grid(4)], [Grid(4, 1)], 4, 4)
        self.assert_parting([Grid(4)], [Grid(4, 1)], 5, 5)
        self.assert_parting([Grid(4)], [Grid(4, 1)], 6, 8)
        self.assert_parting([Grid(4)], [Grid(4, 1)], -6, -4)
        self.assert_parting([Grid(4)], [Grid(4, 1)], -3, -3)

    def test_a_single_gap_far_away(self):
        for size in range(6):
            stretch = 2**size
            last = Grid(stretch, stretch - 1)
            for parts in (2, 1000, 10**390):
                far = last.tick_of(parts - 1)
                other = halves(size) + [Grid(stretch * parts, far)]
                # The other list has all gaps but one in each `parts` gaps of the first.
                self.assert_parting(halves(size), other, far + 1, far + stretch * parts)
                self.assert_parting(halves(size), other, far, far)
                self.assert_parting(halves(size), other, far + 1 - stretch * parts, far)
                self.assert_parting(halves(size), other, -far, next_on(stretch * parts, far, -far))

    def test_all_but_a_single_gap_far_away(self):
        inner = halves(5)
        whole = inner + [Grid(32, 31)]
        for parts in (2, 3, 1000, 10**390):
            # The list with this grid has a gap at 31 and none at the last one of `parts` gaps.
            part = Grid(32 * parts, 31 + 32 * (parts - 1))
            self.assert_parting(inner + [part], whole, 0, 31)
            self.assert_parting(inner + [part], whole, part.offset - 31, part.offset + 32)
            self.assert_parting(inner + [part], inner, 0, part.offset)
            self.assert_parting(inner + [part], inner, part.offset + 1, part.offset + part.step)

    def test_steps_near_the_largest(self):
        near = [Grid(FAR - 1, 5), Grid(FAR, 3), Grid(FAR + 1, 1)]
        self.assert_parting(near, near[:2], 0, 1)
        self.assert_parting(near, near[:2], 2, FAR + 2)
        self.assert_parting(near, near[1:], 6, FAR + 4)
        self.assert_parting(near, [Grid(FAR, 3)], 2, 5)
        self.assert_parting(near, [Grid(FAR, 3)], 6, FAR + 2)
        self.assert_parting(near, [Grid(FAR, 3)], -FAR, -FAR)
        self.assert_parting(near, [Grid(FAR, 3)], -FAR + 1, -FAR + 6)
        six = [Grid(FAR - at) for at in range(6)]
        self.assert_parting(six, six[:5], 1, FAR - 5)
        self.assert_parting(six, six[1:] + [Grid(FAR + 7)], 1, FAR)
        self.assert_parting(six, six[1:] + [Grid(2 * FAR)], 1, FAR)
        self.assert_parting(six, six[1:] + [Grid(2 * FAR)], FAR + 1, 3 * FAR)

    def test_the_common_tick_of_a_grid_is_no_parting(self):
        # The ticks of the first grid are on the second list but for one in 64.
        grid = Grid(FAR, 9)
        cover = [Grid(FAR * part.step, FAR * part.offset + 9) for part in halves(6)]
        self.assert_parting([grid], cover, 0, 9 + 63 * FAR)
        self.assert_parting([grid], cover, 10 + 63 * FAR, 9 + 127 * FAR)
        self.assert_parting([grid], cover, -FAR, 9 - FAR)
        self.assert_parting([grid], cover, 9 - FAR + 1, 9 + 63 * FAR)

    def test_arguments_are_unchanged(self):
        first, second = halves(4), [Grid(FAR), Grid(3)]
        before = (pairs(first), pairs(second))
        parting(first, second, 3)
        self.assertEqual((pairs(first), pairs(second)), before)


def next_on(step, offset, start):
    return start + (offset - start) % step


if __name__ == "__main__":
    unittest.main()
