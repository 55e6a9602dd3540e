"""Points 2, 23 and 27: how many bars of a lead are open."""

import unittest
from math import gcd

from barclips.bars import closings
from barclips.counts import bar_parting, nth_open, open_between, open_share
from barclips.errors import BadNumber, BadSetting, EmptyClip, OffGrid, Unknown
from barclips.grids import Grid
from barclips.sounds import Clip, Lead
from barclips.stages import Stage
from barclips.tracks import Track
from tests.helpers import FAR, GridTests
from tests.scenes import Bars, bare, clip, duo, huge, ladder, lead, quiet, rings, settings_of, single, stages, turns
from tests.test_bars import ladder_setting

SINCES = (-FAR, -41, -8, -1, 0, 1, 4, 17, FAR, FAR + 1)


def cases(amount):
    """Stages, names of leads and settings, with their bars."""
    for stage in stages():
        for setting in settings_of(stage, amount):
            for found in stage.leads:
                yield stage, found.name, setting, Bars(stage, found.name, setting)


class LeadCheckTests(GridTests):
    calls = (
        lambda stage, name, setting: open_between(stage, name, setting, 0, 9),
        lambda stage, name, setting: open_between(stage, name, setting, 9, 0),
        lambda stage, name, setting: nth_open(stage, name, setting, 0, 3),
        lambda stage, name, setting: nth_open(stage, name, setting, 0, -1),
        open_share,
        lambda stage, name, setting: bar_parting(stage, name, setting, [None] * 4, 0),
        lambda stage, name, setting: bar_parting(stage, name, [None] * 4, setting, 0),
        lambda stage, name, setting: bar_parting(stage, name, setting, [None] * 9, 0),
    )
    faults = (
        ([None], BadSetting, {"size": 1}), ([("x", 0), None, None, None], Unknown, {"name": "x"}),
        ([None, ("blank", 2), None, None], EmptyClip, {"name": "blank"}),
        ([("kick", 3), None, None, None], OffGrid, {"tick": 3}),
    )

    def test_unknown_leads(self):
        for call in self.calls:
            for name in ("drums", "kick", "", "Horn"):
                for setting in [[None] * 4] + [setting for setting, _, _ in self.faults]:
                    self.assert_raises_with(Unknown, {"name": name}, call, rings(), name, setting)

    def test_settings_that_are_refused(self):
        for setting, error, values in self.faults:
            for call in self.calls:
                self.assert_raises_with(error, values, call, rings(), "horn", setting)
                self.assert_raises_with(error, values, call, rings(), "horn", tuple(setting))

    def test_the_first_setting_comes_first(self):
        for setting, error, values in self.faults:
            for other, _, _ in self.faults:
                self.assert_raises_with(error, values, bar_parting, rings(), "horn", setting, other, 0)


class OpenBetweenTests(GridTests):
    def test_short_stretches(self):
        for stage, name, setting, bars in cases(6):
            for low in SINCES:
                for length in (-3, 0, 1, 2, 7, 30, 61):
                    high = low + length
                    first, last = bars.first_from(low), bars.first_from(high)
                    expected = sum(bars.is_open(number) for number in range(first, last))
                    self.assertEqual(open_between(stage, name, setting, low, high), expected)

    def test_every_short_stretch(self):
        stage, setting = duo(), [("kick", 4), ("hat", 0)]
        for name in ("horn", "pipe", "bell"):
            bars = Bars(stage, name, setting)
            ticks = {bars.tick(number) for number in range(-30, 30) if bars.is_open(number)}
            for low in range(-20, 20):
                for high in range(low - 3, 30):
                    expected = sum(tick in ticks for tick in range(low, high))
                    self.assertEqual(open_between(stage, name, setting, low, high), expected)
                    self.assertEqual(open_between(stage, name, tuple(setting), low, high), expected)

    def test_stretches_of_hundreds_of_digits(self):
        for stage, name, setting, bars in cases(4):
            for low in (-FAR, -17, 0, 5):
                for high in (10**100, 10**200 + 7, FAR - 2, FAR):
                    expected = bars.opens_below(bars.first_from(high)) - bars.opens_below(bars.first_from(low))
                    self.assertEqual(open_between(stage, name, setting, low, high), expected)

    def test_a_high_end_that_is_not_greater(self):
        for stage, name, setting, _ in cases(3):
            for low in SINCES:
                for high in (low, low - 1, low - 100, -2 * FAR):
                    self.assertEqual(open_between(stage, name, setting, low, high), 0)

    def test_ends_of_a_stretch(self):
        self.assertEqual(open_between(duo(), "horn", [None, None], 0, 8), 2)
        self.assertEqual(open_between(duo(), "horn", [None, None], 0, 9), 3)
        self.assertEqual(open_between(duo(), "horn", [None, None], 1, 9), 2)
        self.assertEqual(open_between(stage=duo(), lead="horn", setting=[("kick", 0), None], low=-8, high=9), 2)
        self.assertEqual(open_between(bare(), "horn", [], -3, 2), 2)

    def test_no_open_bar(self):
        for low, high in ((0, 100), (-FAR, FAR)):
            self.assertEqual(open_between(ladder(), "horn", ladder_setting(), low, high), 0)
            self.assertEqual(open_between(single(), "pipe", [("brick", 0)], low, high), 0)

    def test_large_steps(self):
        stage = huge()
        self.assertEqual(open_between(stage, "horn", [None, None], 7, 7 + FAR * (FAR + 1)), FAR)
        # The first bar is at the guarded place 0, and the next ones only much later.
        self.assertEqual(open_between(huge_at_bar(), "horn", [("kick", 7)], 0, 10 * FAR), 9)
        self.assertEqual(open_between(huge_at_bar(), "horn", [("kick", 7)], 8, 10 * FAR), 9)


def huge_at_bar():
    """A stage whose track is guarded at the first bar and at every FAR-th bar after it."""
    return Stage([Track("a", Clip("kick", grid=Grid(FAR, 7), length=FAR, guards=[0]))],
                 [Lead("horn", grid=Grid(FAR + 1, 7), length=1)])


class NthOpenTests(GridTests):
    def test_small_counts(self):
        for stage, name, setting, bars in cases(6):
            for since in SINCES:
                number = bars.next_open(bars.first_from(since))
                for count in range(4):
                    expected = None if number is None else bars.tick(number)
                    self.assertEqual(nth_open(stage, name, setting, since, count), expected)
                    number = None if number is None else bars.next_open(number + 1)

    def test_large_counts(self):
        for stage, name, setting, bars in cases(4):
            opens = len(bars.open_numbers)
            for since in SINCES:
                for count in (64, 1000, 10**100 + 7, FAR):
                    expected = None
                    if opens:
                        nth = bars.opens_below(bars.first_from(since)) + count
                        expected = bars.tick(nth // opens * bars.many + bars.open_numbers[nth % opens])
                    self.assertEqual(nth_open(stage, name, setting, since, count), expected)

    def test_by_the_definition(self):
        for stage, name, setting, bars in cases(4):
            for since in (-FAR, -3, 5):
                for count in (0, 1, 12, FAR):
                    tick = nth_open(stage, name, tuple(setting), since, count)
                    if tick is not None:
                        self.assertGreaterEqual(tick, since)
                        self.assertEqual(open_between(stage, name, setting, since, tick), count)
                        self.assertEqual(open_between(stage, name, setting, tick, tick + 1), 1)

    def test_no_open_bar(self):
        for count in (0, 1, FAR):
            for since in SINCES:
                self.assertIsNone(nth_open(ladder(), "horn", ladder_setting(), since, count))
                self.assertIsNone(nth_open(single(), "bell", [("brick", 0)], since, count))

    def test_counts_below_zero_are_refused(self):
        for stage, name, setting in (
            (duo(), "horn", [("kick", 0), None]), (ladder(), "horn", ladder_setting()), (bare(), "horn", []),
        ):
            for count in (-1, -2, -FAR):
                self.assert_raises_with(BadNumber, {"value": count}, nth_open, stage, name, setting, 0, count)

    def test_arguments_have_their_names(self):
        self.assertEqual(nth_open(stage=duo(), lead="horn", setting=[("kick", 0), None], since=0, count=2), 20)

    def test_large_steps(self):
        self.assertEqual(nth_open(huge_at_bar(), "horn", [("kick", 7)], 0, 0), FAR + 8)
        self.assertEqual(nth_open(huge_at_bar(), "horn", [("kick", 7)], 0, FAR - 2), 7 + (FAR - 1) * (FAR + 1))
        self.assertEqual(nth_open(huge_at_bar(), "horn", [("kick", 7)], 0, FAR - 1), 7 + (FAR + 1) * (FAR + 1))


class OpenShareTests(GridTests):
    def test_against_the_bars(self):
        for stage, name, setting, bars in cases(10):
            share = open_share(stage, name, setting)
            divisor = gcd(len(bars.open_numbers), bars.many)
            self.assertIs(type(share), tuple)
            self.assertEqual(share, (len(bars.open_numbers) // divisor, bars.many // divisor))
            self.assertEqual(open_share(stage, name, tuple(setting)), share)

    def test_with_and_without_closings(self):
        self.assertEqual(open_share(quiet(), "horn", [("kick", 0), None]), (1, 1))
        self.assertEqual(open_share(bare(), "horn", []), (1, 1))
        self.assertEqual(open_share(duo(), "pipe", [("kick", 0), ("hat", 0)]), (1, 1))
        self.assertEqual(open_share(duo(), "pipe", [("kick", 4), ("hat", 0)]), (0, 1))
        self.assertEqual(open_share(duo(), "horn", [("kick", 0), ("hat", 4)]), (1, 4))
        self.assertEqual(open_share(duo(), "horn", [("kick", 0), ("hat", 0)]), (1, 2))
        self.assertEqual(open_share(ladder(), "horn", ladder_setting()), (0, 1))
        self.assertEqual(open_share(turns(), "horn", [("riff", 0)]), (0, 1))
        self.assertEqual(open_share(turns(), "pipe", [("riff", 0)]), (1, 2))
        self.assertEqual(open_share(stage=duo(), lead="horn", setting=[None, None]), (1, 1))

    def test_large_steps(self):
        self.assertEqual(open_share(huge_at_bar(), "horn", [("kick", 7)]), (FAR - 1, FAR))
        # The bass closes one bar in nine, and the drums four bars in a period that is a multiple of nine.
        setting, period = [("kick", 5), ("low", 1)], 2 * FAR - 2
        closed = [grid.offset for name, _, grid in closings(huge(), "horn", setting) if name == "drums"]
        opened = period - period // 9 - sum(number % 9 != 8 for number in closed)
        divisor = gcd(opened, period)
        self.assertEqual(len(closed), 4)
        self.assertEqual(open_share(huge(), "horn", setting), (opened // divisor, period // divisor))


class BarPartingTests(GridTests):
    def test_against_the_bars(self):
        for stage in stages():
            settings = settings_of(stage, 8)
            for found in stage.leads:
                kept = [Bars(stage, found.name, setting) for setting in settings]
                for at, first in enumerate(settings):
                    for by, second in enumerate(settings):
                        for since in (-FAR, -7, 0, 5):
                            self.assertEqual(
                                bar_parting(stage, found.name, first, second, since),
                                self.expected(kept[at], kept[by], since),
                            )

    def expected(self, one, other, since):
        first = one.first_from(since)
        for number in range(first, first + one.many):
            if one.is_open(number) != other.is_open(number):
                return one.tick(number)
        return None

    def test_settings_that_sound_alike_at_the_bars(self):
        for first, second in (
            ([("kick", 0), None], [("kick", 8), None]), ([("kick", 0), None], [("kick", 0), ("hat", 0)]),
            ([("kick", 0), None], [("kick", 0), ("hat", 8)]), ([None, None], [None, None]),
        ):
            for since in SINCES:
                self.assertIsNone(bar_parting(duo(), "horn", first, second, since))
                self.assertIsNone(bar_parting(duo(), "horn", second, tuple(first), since))
        # At the bars of the pipe nothing of these two is heard.
        self.assertIsNone(bar_parting(duo(), "pipe", [("kick", 0), None], [None, ("hat", 8)], 0))
        self.assertIsNone(bar_parting(ladder(), "horn", ladder_setting(), ladder_setting(2), 0))
        self.assertIsNone(bar_parting(bare(), "horn", [], [], 0))

    def test_other_closers_of_the_same_bars(self):
        twins = [Track(name, clip("x" + name, "1", 4, guards=[0])) for name in ("b", "a")]
        stage = Stage(twins, [lead("horn", "1")])
        self.assertIsNone(bar_parting(stage, "horn", [("xb", 1), None], [None, ("xa", 5)], 0))
        self.assertEqual(bar_parting(stage, "horn", [("xb", 1), None], [None, ("xa", 6)], 0), 1)
        self.assertEqual(bar_parting(stage, "horn", [("xb", 1), None], [None, ("xa", 6)], 2), 2)
        self.assertEqual(bar_parting(stage, "horn", [("xb", 1), None], [None, ("xa", 6)], 3), 5)

    def test_settings_that_part_late(self):
        stage = ladder()
        setting = ladder_setting()
        changed = setting[:5] + [("clip5", 30)]
        self.assertEqual(bar_parting(stage, "horn", setting, changed, 0), 62)
        self.assertEqual(bar_parting(stage, "horn", changed, setting, 63), 126)
        self.assertEqual(bar_parting(stage, "horn", changed, setting, -1), 62)
        self.assertEqual(bar_parting(stage, "horn", changed, setting, -2), -2)
        self.assertEqual(bar_parting(stage=stage, lead="horn", first=setting, second=changed, since=64 * FAR),
                         64 * FAR + 62)

    def test_large_steps(self):
        stage = huge_at_bar()
        self.assertEqual(bar_parting(stage, "horn", [("kick", 7)], [None], 8), 7 + FAR * (FAR + 1))
        self.assertEqual(bar_parting(stage, "horn", [None], [("kick", 7)], 7), 7)
        self.assertIsNone(bar_parting(stage, "horn", [("kick", 7)], [("kick", 7 + FAR)], 0))


if __name__ == "__main__":
    unittest.main()
