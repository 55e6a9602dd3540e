"""Points 2 and 8 to 11: the gaps of lists of grids."""

import unittest

from barclips.gaps import cycle_of, first_gap, needless
from barclips.grids import Grid
from tests.helpers import (
    FAR, GridTests, ListPromises, covers, gaps_of, gappy_lists, halves, holds, is_gap, lists_with_one_left_out,
    period_of, small_lists,
)

STARTS = (-FAR, -1000, -33, -2, -1, 0, 1, 5, 31, 64, 997, FAR - 1, FAR)


def moved(grids, ticks):
    return [Grid(grid.step, grid.offset + ticks) for grid in grids]


class ListTests(ListPromises, GridTests):
    """Point 8, for the three functions of barclips/gaps.py."""

    calls = (lambda grids: first_gap(grids, 5), cycle_of, needless)

    def test_six_grids_are_taken(self):
        grids = [Grid(2)] * 6
        self.assertEqual([call(grids) for call in self.calls], [5, None, [0, 1, 2, 3, 4, 5]])

    def test_arguments_have_their_names(self):
        grids = [Grid(2), Grid(2, 1)]
        self.assertIsNone(first_gap(grids=grids, start=0))
        self.assertEqual(cycle_of(grids=grids), [0, 1])
        self.assertEqual(needless(grids=grids), [])


class FirstGapTests(GridTests):
    def test_no_gap(self):
        for grids in covers():
            for start in STARTS:
                self.assertIsNone(first_gap(grids, start))

    def test_one_grid_left_out(self):
        for grids in lists_with_one_left_out():
            for start in STARTS:
                gaps = gaps_of(grids, start, start + 64)
                self.assertEqual(first_gap(grids, start), gaps[0] if gaps else None)

    def test_against_gaps_counted_one_by_one(self):
        for grids in small_lists():
            period = period_of(grids)
            gaps = gaps_of(grids, -period, 2 * period)
            for start in range(-period, period, max(1, period // 30)):
                later = [gap for gap in gaps if gap >= start]
                self.assertEqual(first_gap(grids, start), later[0] if later else None)

    def test_a_list_without_grids_has_every_gap(self):
        for start in STARTS:
            self.assertEqual(first_gap([], start), start)

    def test_a_start_at_a_gap_is_the_gap(self):
        self.assertEqual(first_gap([Grid(2)], 3), 3)
        self.assertEqual(first_gap([Grid(2)], 4), 5)
        self.assertEqual(first_gap([Grid(2)], -4), -3)
        self.assertEqual(first_gap([Grid(2)], -3), -3)

    def test_gaps_that_lie_as_far_apart_as_they_can(self):
        for count in range(7):
            stretch = 2**count
            for ticks in STARTS:
                grids = moved(halves(count), ticks)
                gap = ticks + stretch - 1
                for start in (ticks, ticks + 1, gap - 1, gap):
                    if ticks <= start <= gap:
                        self.assertEqual(first_gap(grids, start), gap)
                self.assertEqual(first_gap(grids, gap + 1), gap + stretch)
                self.assertEqual(first_gap(grids[::-1], gap + 1), gap + stretch)

    def test_a_long_step_beside_short_ones(self):
        grids = halves(5) + [Grid(32 * FAR, 31)]
        self.assertEqual(first_gap(grids, 0), 63)
        self.assertEqual(first_gap(grids, 32), 63)
        self.assertEqual(first_gap(grids, 64), 95)
        self.assertEqual(first_gap(grids, -1), -1)
        self.assertEqual(first_gap(grids, 32 * FAR), 32 * FAR + 63)
        self.assertEqual(first_gap(grids, -32 * FAR), -32 * FAR + 63)

    def test_long_steps(self):
        grids = [Grid(FAR + by, 10 - by) for by in range(-3, 3)]
        for start in (-FAR, 0, 7, 8, 9, 13, 14, FAR, FAR + 5, FAR**6):
            gaps = gaps_of(grids, start, start + 64)
            self.assertEqual(first_gap(grids, start), gaps[0])
        self.assertEqual(first_gap(grids, 8), 14)

    def test_fact_a_stretch_without_gaps_shows_that_there_are_none(self):
        for grids in small_lists():
            for start in (-70, -1, 0, 13):
                stretch = gaps_of(grids, start, start + 2**len(grids))
                self.assertEqual(first_gap(grids, start) is None, not stretch)
                self.assertEqual(not gaps_of(grids, 0, period_of(grids)), not stretch)


class CycleTests(GridTests):
    def assert_cycle(self, grids, cycle):
        """The cycle is the one of the definition, found without the program."""
        self.assertIs(type(cycle), list)
        for size in range(1, len(cycle) + 1):
            owners = [
                [index for index, grid in enumerate(grids) if size % grid.step == 0 and holds(grid, remainder)]
                for remainder in range(size)
            ]
            if size < len(cycle):
                self.assertIn([], owners)
            else:
                self.assertEqual(cycle, [found[0] for found in owners])

    def test_lists_without_a_gap(self):
        for grids in covers():
            for ticks in (0, 1, -7, FAR):
                new = moved(grids, ticks)
                self.assert_cycle(new, cycle_of(new))
                self.assert_cycle(new[::-1], cycle_of(new[::-1]))

    def test_lists_with_a_gap(self):
        for grids in lists_with_one_left_out() + gappy_lists():
            if gaps_of(grids, 0, 2**len(grids)):
                self.assertIsNone(cycle_of(grids))
            else:
                self.assert_cycle(grids, cycle_of(grids))

    def test_fact_a_cycle_is_not_longer_than_half_of_two_to_the_grids(self):
        longest = {}
        for grids in covers():
            size = len(cycle_of(grids))
            self.assertLessEqual(size, 2**(len(grids) - 1))
            longest[len(grids)] = max(size, longest.get(len(grids), 0))
        self.assertEqual(longest, {1: 1, 2: 2, 3: 4, 4: 8, 5: 16, 6: 32})

    def test_the_longest_cycle(self):
        grids = halves(5) + [Grid(32, 31)]
        cycle = cycle_of(grids)
        half = [0, 1, 0, 2, 0, 1, 0, 3, 0, 1, 0, 2, 0, 1, 0]
        self.assertEqual(cycle, half + [4] + half + [5])

    def test_the_least_index_stands_in_the_cycle(self):
        self.assertEqual(cycle_of([Grid(1), Grid(1)]), [0])
        self.assertEqual(cycle_of([Grid(4), Grid(1), Grid(2)]), [1])
        self.assertEqual(cycle_of([Grid(2), Grid(2), Grid(2, 1), Grid(2, 1)]), [0, 2])
        self.assertEqual(cycle_of([Grid(4), Grid(2), Grid(2, 1)]), [1, 2])
        self.assertEqual(cycle_of([Grid(4), Grid(2), Grid(4, 1), Grid(4, 3)]), [0, 2, 1, 3])

    def test_a_cycle_need_not_have_a_power_of_two(self):
        self.assertEqual(cycle_of([Grid(3, 2), Grid(3), Grid(3, 1)]), [1, 2, 0])
        self.assertEqual(cycle_of([Grid(2), Grid(3), Grid(4, 1), Grid(6, 1), Grid(12, 11)]),
                         [0, 2, 0, 1, 0, 2, 0, 3, 0, 1, 0, 4])

    def test_long_steps(self):
        self.assertEqual(cycle_of([Grid(FAR), Grid(2, FAR), Grid(2, FAR + 1)]), [1, 2])
        self.assertIsNone(cycle_of([Grid(FAR), Grid(2), Grid(FAR + 1, 1)]))
        self.assertIsNone(cycle_of([]))

    def test_cycles_are_new_lists(self):
        grids = [Grid(2), Grid(2, 1)]
        first = cycle_of(grids)
        first.append(7)
        self.assertEqual(cycle_of(grids), [0, 1])


class NeedlessTests(GridTests):
    def expected(self, grids):
        """The needless indexes by the definition, one integer after another over a whole period."""
        period = period_of(grids)
        found = []
        for index, grid in enumerate(grids):
            others = grids[:index] + grids[index + 1:]
            if not any(is_gap(others, tick) for tick in range(grid.offset, period, grid.step)):
                found.append(index)
        return found

    def test_against_integers_tried_one_by_one(self):
        for grids in small_lists():
            self.assertEqual(needless(grids), self.expected(grids))
            self.assertEqual(needless(grids[::-1]), self.expected(grids[::-1]))

    def test_lists_with_a_grid_more(self):
        for grids in small_lists():
            if len(grids) < 6:
                for more in (Grid(1), Grid(2, 1), Grid(6, 5), Grid(32, 31)):
                    self.assertEqual(needless([more] + grids), self.expected([more] + grids))

    def test_few_grids(self):
        self.assertEqual(needless([]), [])
        self.assertEqual(needless([Grid(1)]), [])
        self.assertEqual(needless([Grid(4), Grid(2)]), [0])
        self.assertEqual(needless([Grid(2), Grid(4, 1)]), [])

    def test_each_index_is_judged_alone(self):
        self.assertEqual(needless([Grid(5, 2), Grid(5, 2)]), [0, 1])
        self.assertEqual(needless([Grid(FAR, 2), Grid(3), Grid(FAR, 2)]), [0, 2])
        self.assertEqual(needless([Grid(2), Grid(2, 1), Grid(3), Grid(3, 1), Grid(3, 2)]), [0, 1, 2, 3, 4])

    def test_long_steps(self):
        self.assertEqual(needless([Grid(FAR, 4), Grid(2), Grid(FAR, 5)]), [0])
        self.assertEqual(needless([Grid(FAR), Grid(FAR + 1), Grid(FAR + 2)]), [])
        parts = [Grid(FAR * 4, FAR * at + 9) for at in range(4)]
        self.assertEqual(needless([Grid(FAR, 9)] + parts), [0, 1, 2, 3, 4])
        self.assertEqual(needless([Grid(FAR, 9)] + parts[1:]), [1, 2, 3])
        self.assertEqual(needless(parts[:2] + [Grid(2 * FAR, 9)]), [0])

    def test_a_grid_that_is_nearly_needless(self):
        for step in (1, 7, FAR):
            inner = [Grid(step * grid.step, step * grid.offset + 3) for grid in halves(5)]
            for grids, index in (([Grid(step, 3)] + inner, 0), (inner + [Grid(step, 3)], 5)):
                self.assertNotIn(index, needless(grids))
            whole = inner[:4] + [Grid(step * 16, step * 15 + 3), Grid(step, 3)]
            self.assertIn(5, needless(whole))

    def test_results_are_new_lists(self):
        grids = [Grid(2), Grid(2)]
        needless(grids).append(7)
        self.assertEqual(needless(grids), [0, 1])


if __name__ == "__main__":
    unittest.main()
