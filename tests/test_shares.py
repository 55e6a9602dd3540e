"""Points 2, 8 and 12: how many gaps a list of grids has."""

import unittest
from fractions import Fraction
from math import gcd

from barclips.errors import BadNumber, TooMany
from barclips.grids import Grid
from barclips.shares import gap_share, gaps_between, nth_gap
from tests.helpers import FAR, GridTests, ListPromises, covers, gaps_of, halves, is_gap, period_of, small_lists

LOWS = (-FAR, -1000, -17, -1, 0, 1, 12, 500, FAR - 5)
COUNTS = (0, 1, 2, 3, 7, 63, 64, 65, 129, 1000, 10**30 + 7, FAR - 1, FAR)


class Period:
    """The gaps of a list, counted one by one over one period."""

    def __init__(self, grids):
        self.length = period_of(grids)
        self.gaps = gaps_of(grids, 0, self.length)

    def below(self, high):
        """The number of gaps from 0 to high - 1; it is negative below 0."""
        rest = high % self.length
        return high // self.length * len(self.gaps) + sum(gap < rest for gap in self.gaps)

    def gap_at(self, number):
        """The gap with exactly that many gaps between 0 and itself."""
        if not self.gaps:
            return None
        return number // len(self.gaps) * self.length + self.gaps[number % len(self.gaps)]


class ListTests(ListPromises, GridTests):
    """Point 8, for the three functions of barclips/shares.py."""

    calls = (lambda grids: gaps_between(grids, -3, 9), lambda grids: nth_gap(grids, 5, 2), gap_share)

    def test_six_grids_are_taken(self):
        grids = [Grid(3, 1)] * 6
        self.assertEqual([call(grids) for call in self.calls], [8, 8, (2, 3)])

    def test_more_grids_are_refused_without_a_stretch(self):
        self.assert_raises_with(TooMany, {"kind": "grids", "most": 6}, gaps_between, [Grid(2)] * 7, 5, 5)

    def test_arguments_have_their_names(self):
        grids = [Grid(2)]
        self.assertEqual(gaps_between(grids=grids, low=0, high=5), 2)
        self.assertEqual(nth_gap(grids=grids, start=0, count=5), 11)
        self.assertEqual(gap_share(grids=grids), (1, 2))


class CountTests(GridTests):
    def test_short_stretches(self):
        for grids in small_lists():
            for low in LOWS:
                for length in (0, 1, 2, 5, 31, 32, 33, 64, 100):
                    gaps = gaps_of(grids, low, low + length)
                    self.assertEqual(gaps_between(grids, low, low + length), len(gaps))

    def test_every_short_stretch(self):
        for grids in ([], [Grid(1)], [Grid(2), Grid(3)], [Grid(4, 1), Grid(6, 3), Grid(6, 3), Grid(9)]):
            for low in range(-40, 40):
                for high in range(low - 2, low + 40):
                    self.assertEqual(gaps_between(grids, low, high), len(gaps_of(grids, low, high)))

    def test_stretches_of_hundreds_of_digits(self):
        for grids in small_lists():
            period = Period(grids)
            for low in LOWS:
                for high in (10**100, 10**100 + 7, FAR - 2, FAR):
                    expected = period.below(high) - period.below(low) if high > low else 0
                    self.assertEqual(gaps_between(grids, low, high), expected)

    def test_no_stretch(self):
        for grids in small_lists() + [[Grid(FAR)]]:
            for low in LOWS:
                for high in (low, low - 1, low - 100, -2 * FAR):
                    self.assertEqual(gaps_between(grids, low, high), 0)

    def test_long_steps(self):
        grids = [Grid(FAR), Grid(FAR + 1), Grid(FAR + 3, 5)]
        self.assertEqual(gaps_between(grids, 0, FAR), FAR - 2)
        self.assertEqual(gaps_between(grids, -3, 1), 3)
        self.assertEqual(gaps_between(grids, 1, 6), 4)
        self.assertEqual(gaps_between(grids, -FAR - 1, FAR + 2), 2 * FAR + 3 - 7)
        six = [Grid(FAR + by) for by in range(6)]
        self.assertEqual(gaps_between(six, -5, 6), 10)
        self.assertEqual(gaps_between(six, 0, 2 * FAR + 20), 2 * FAR + 20 - 13)

    def test_a_whole_period_of_long_steps(self):
        one, other = 10**100, 10**100 + 1
        self.assertEqual(gaps_between([Grid(one, 7), Grid(other, 9)], 3, 3 + one * other), (one - 1) * (other - 1))
        self.assertEqual(gaps_between([Grid(one, 7), Grid(2 * one, 9)], 3, 3 + 2 * one), 2 * one - 3)
        self.assertEqual(gaps_between([Grid(one, 7), Grid(2 * one, 7)], 3, 3 + 2 * one), 2 * one - 2)


class NthGapTests(GridTests):
    def test_small_counts(self):
        for grids in small_lists():
            for start in (-1000, -17, 0, 12, FAR - 5):
                gaps = gaps_of(grids, start, start + 400)
                for count in (0, 1, 2, 3, 5):
                    self.assertEqual(nth_gap(grids, start, count), gaps[count] if gaps else None)

    def test_every_small_count(self):
        for grids in ([], [Grid(2)], [Grid(2), Grid(3)], [Grid(9, 1), Grid(6, 3), Grid(4)], halves(5), halves(6)):
            for start in (-64, -1, 0, 31, 63):
                gaps = gaps_of(grids, start, start + 150 * 64)[:150]
                self.assertEqual([nth_gap(grids, start, count) for count in range(150)], gaps)

    def test_large_counts(self):
        for grids in small_lists():
            period = Period(grids)
            for start in (-FAR, -17, 0, 12, FAR - 5):
                for count in COUNTS:
                    self.assertEqual(nth_gap(grids, start, count), period.gap_at(period.below(start) + count))

    def test_no_gap(self):
        for grids in covers():
            for start in LOWS:
                for count in (0, 1, FAR):
                    self.assertIsNone(nth_gap(grids, start, count))

    def test_long_steps(self):
        grids = [Grid(FAR), Grid(FAR + 1), Grid(FAR + 3, 5)]
        for start, count, gap in (
            (0, 0, 1), (-1, 0, -1), (-1, 1, 1), (1, 3, 4), (1, 4, 6), (0, FAR - 3, FAR - 1),
            (0, FAR - 2, FAR + 2), (5, 0, 6), (-FAR, 0, -FAR + 1), (-FAR, 1, -FAR + 3),
        ):
            self.assertEqual(nth_gap(grids, start, count), gap)

    def test_long_steps_by_the_definition(self):
        for grids in ([Grid(FAR + by, by) for by in range(6)], halves(5) + [Grid(32 * FAR, 31)], [Grid(2), Grid(FAR)]):
            for start in (-FAR, 0, FAR):
                for count in COUNTS:
                    gap = nth_gap(grids, start, count)
                    self.assertGreaterEqual(gap, start)
                    self.assertTrue(is_gap(grids, gap))
                    self.assertEqual(gaps_between(grids, start, gap), count)

    def test_a_negative_count_is_refused(self):
        for grids in ([], [Grid(1)], [Grid(2), Grid(3)], [Grid(FAR)] * 6):
            for count in (-1, -2, -64, -FAR):
                self.assert_raises_with(BadNumber, {"value": count}, nth_gap, grids, 5, count)

    def test_too_many_grids_come_before_a_negative_count(self):
        for grids in ([Grid(2)] * 7, (Grid(1),) * 9):
            self.assert_raises_with(TooMany, {"kind": "grids", "most": 6}, nth_gap, grids, 5, -1)


class ShareTests(GridTests):
    def test_against_gaps_counted_one_by_one(self):
        for grids in small_lists():
            period = Period(grids)
            divisor = gcd(len(period.gaps), period.length)
            share = gap_share(grids)
            self.assertIs(type(share), tuple)
            self.assertEqual(share, (len(period.gaps) // divisor, period.length // divisor))

    def test_few_grids(self):
        self.assertEqual(gap_share([]), (1, 1))
        self.assertEqual(gap_share([Grid(1)]), (0, 1))
        self.assertEqual(gap_share([Grid(2)]), (1, 2))
        self.assertEqual(gap_share([Grid(FAR, 5)]), (FAR - 1, FAR))
        self.assertEqual(gap_share([Grid(6), Grid(6, 3)]), (2, 3))
        self.assertEqual(gap_share([Grid(5), Grid(5)]), (4, 5))

    def test_no_gap(self):
        for grids in covers():
            self.assertEqual(gap_share(grids), (0, 1))

    def test_long_steps_without_a_common_factor(self):
        steps = [2**127 - 1, 2**521 - 1, 2**607 - 1, 2**1279 - 1, 10**399, 3**800]
        for count in range(1, 7):
            share = Fraction(1)
            for step in steps[:count]:
                share = share * Fraction(step - 1, step)
            grids = [Grid(step, 10**50 + step // 3) for step in steps[:count]]
            self.assertEqual(gap_share(grids), (share.numerator, share.denominator))

    def test_long_steps_with_a_common_factor(self):
        self.assertEqual(gap_share([Grid(FAR), Grid(2 * FAR, FAR)]), (FAR - 1, FAR))
        self.assertEqual(gap_share([Grid(FAR), Grid(2 * FAR, 1)]), (2 * FAR - 3, 2 * FAR))
        self.assertEqual(gap_share([Grid(4 * FAR, 1), Grid(4 * FAR, 3)]), (2 * FAR - 1, 2 * FAR))


if __name__ == "__main__":
    unittest.main()
