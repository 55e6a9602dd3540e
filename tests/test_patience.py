"""Points 2, 23 and 33: patience, the latest press, and the tracks that must be silent."""

import unittest
from itertools import combinations

from barclips.errors import BadNumber, Unknown
from barclips.grids import Grid
from barclips.papers import check_reach
from barclips.patience import enough, latest, silence, swallowing
from barclips.settings import check_setting
from barclips.sounds import Clip, Lead
from barclips.stages import Stage
from barclips.tracks import Track
from barclips.waits import longest
from tests.helpers import FAR, GridTests, state
from tests.scenes import (
    Bars, bare, clip, coprime, drawn, duo, ladder, lead, limits, quiet, rings, single, stages, turns, uneven,
)
from tests.slow_waits import AllSettings
from tests.test_waits import later, leads_of

PATIENCES = (1, 2, 3, 4, 5, 6, 31, 32, 63, 64)
REFUSED = (0, -1, -2, 65, 66, FAR, -FAR)


def small():
    return [duo(), rings(), coprime(), single(), turns(), uneven(), quiet(), bare()] + drawn(40, 21)


class SwallowingTests(GridTests):
    def assert_swallowing(self, stage, name, patience, bars):
        """None exactly if the patience is above the longest wait, and otherwise closed bars."""
        made = swallowing(stage, name, patience)
        if bars is not None and patience > bars:
            self.assertIs(made, None)
            return
        self.assertIs(type(made), tuple)
        number, setting = made
        self.assertIs(type(setting), tuple)
        check_setting(stage, setting)
        self.assertTrue(check_reach(stage, name, setting, number, patience))

    def test_every_patience(self):
        for stage, name in leads_of(small()[:20]):
            bars = AllSettings(stage, name).longest()
            for patience in range(1, 65):
                self.assert_swallowing(stage, name, patience, bars)

    def test_the_bars_are_closed(self):
        for stage, name in leads_of(small()):
            bars = AllSettings(stage, name).longest()
            patience = 64 if bars is None else bars
            if patience:
                number, setting = swallowing(stage, name, patience)
                model = Bars(stage, name, setting)
                self.assertFalse(any(model.is_open(number + at) for at in range(patience)))

    def test_stages_at_the_limits(self):
        for stage, bars in ((limits(4, 8, 16, 32, 64, 128), 63), (limits(4, 8, 16, 32, 64, 64), None),
                            (limits(4, 8, 16, 32, 128, 128), 47), (ladder(), None)):
            for patience in PATIENCES + (47, 48):
                self.assert_swallowing(stage, "horn", patience, bars)
        self.assertIs(swallowing(limits(4, 8, 16, 32, 64, 128), "horn", 64), None)
        self.assertIs(swallowing(limits(4, 8, 16, 32, 64, 128), "pipe", 1), None)

    def test_patiences_that_are_refused(self):
        for patience in REFUSED:
            for stage in (duo(), bare(), ladder()):
                self.assert_raises_with(BadNumber, {"value": patience}, swallowing, stage, "horn", patience)
            self.assert_raises_with(Unknown, {"name": "x"}, swallowing, duo(), "x", patience)

    def test_unknown_leads(self):
        for name in ("drums", "kick", ""):
            for patience in (1, 64):
                self.assert_raises_with(Unknown, {"name": name}, swallowing, duo(), name, patience)
        self.assertIs(swallowing(stage=bare(), lead="horn", patience=1), None)


class EnoughTests(GridTests):
    def test_against_all_settings(self):
        for stage, name in leads_of(small()):
            bars = AllSettings(stage, name).longest()
            self.assertEqual(enough(stage, name), None if bars is None else bars + 1)

    def test_against_swallowing(self):
        for stage, name in leads_of(small()[:20]) + [(ladder(), "horn"), (limits(4, 8, 16, 32, 64, 128), "horn")]:
            found = [patience for patience in range(1, 65) if swallowing(stage, name, patience) is None]
            self.assertEqual(enough(stage, name), min(found, default=None))

    def test_against_longest(self):
        for stage, name in leads_of(stages() + drawn(20, 22)):
            wait = longest(stage, name)
            self.assertEqual(enough(stage, name), None if wait.forever else wait.bars + 1)

    def test_ends(self):
        self.assertEqual(enough(bare(), "horn"), 1)
        self.assertEqual(enough(quiet(), "horn"), 1)
        self.assertEqual(enough(duo(), "horn"), 4)
        self.assertEqual(enough(limits(4, 8, 16, 32, 64, 128), "horn"), 64)
        self.assertIs(enough(ladder(), "horn"), None)
        self.assertIs(enough(stage=single(), lead="pipe"), None)

    def test_unknown_leads(self):
        for name in ("drums", "kick", ""):
            self.assert_raises_with(Unknown, {"name": name}, enough, duo(), name)


class LatestTests(GridTests):
    def test_against_all_settings(self):
        for stage, name in leads_of(small()):
            model = AllSettings(stage, name)
            for tick in list(range(-12, 13)) + [FAR, FAR + 1, FAR + 2, FAR + 3, -FAR, 1 - FAR]:
                self.assertEqual(latest(stage, name, tick), model.latest(tick))

    def test_by_hand(self):
        # Without guards the last bar itself is open.
        for tick, expected in ((0, -1), (3, -1), (4, 3), (5, 3), (-1, -5), (FAR, FAR - 1), (FAR + 3, FAR - 1)):
            self.assertEqual(latest(quiet(), "horn", tick), expected)
        # Two bars in a row are closed at most, and the last one may be one of them.
        stage = Stage([Track("a", clip("b", "1", 12, 1, [0, 4]))], [lead("horn", "4"), lead("pipe", "12")])
        for tick, expected in ((0, -9), (3, -9), (4, -5), (11, -1), (-1, -13), (4 * FAR, 4 * FAR - 9)):
            self.assertEqual(latest(stage, "horn", tick), expected)
        self.assertIs(latest(stage, "pipe", 0), None)

    def test_backwards_is_not_forwards(self):
        # The second bar of two closed ones can only be an odd one.
        stage = Stage([Track("a", clip("b", "2", 6, 1, [0, 1]))], [lead("horn", "1")])
        self.assertEqual([latest(stage, "horn", tick) for tick in range(4)], [-2, -2, 0, 0])

    def test_stages_at_the_limits(self):
        stage = limits(4, 8, 16, 32, 64, 128)
        for tick in (0, 1, 126, 127, FAR, -FAR):
            self.assertEqual(latest(stage, "horn", tick), tick - tick % 2 - 127)
            self.assertEqual(latest(stage, "pipe", tick), tick - (tick - 1) % 2 - 1)
            self.assertIs(latest(ladder(), "horn", tick), None)

    def test_large_steps(self):
        stage = Stage([Track("a", Clip("b", grid=Grid(FAR, 5), length=3 * FAR, guards=[0, FAR]))],
                      [Lead("horn", grid=Grid(FAR, 5), length=1), Lead("pipe", grid=Grid(2 * FAR, 6), length=1)])
        self.assertEqual(latest(stage, "horn", 6), 4 - 2 * FAR)
        self.assertEqual(latest(stage, "horn", 4), 4 - 3 * FAR)
        self.assertEqual(latest(stage, "pipe", 6), 5)

    def test_moved_grids(self):
        for stage, name in leads_of(small()[:20]):
            for ticks in (1, -FAR, FAR // 7):
                before = latest(stage, name, 17)
                after = latest(later(stage, ticks), name, 17 + ticks)
                self.assertEqual(after, None if before is None else before + ticks)

    def test_unknown_leads(self):
        for name in ("drums", "kick", ""):
            self.assert_raises_with(Unknown, {"name": name}, latest, duo(), name, 4)
        self.assertEqual(latest(stage=bare(), lead="horn", tick=1), 0)


class SilenceTests(GridTests):
    def expected(self, stage, name, patience):
        """The first of the shortest lists of tracks, by trying all settings without them."""
        for many in range(len(stage.tracks) + 1):
            for gone in combinations(stage.tracks, many):
                rest = Stage([track for track in stage.tracks if track not in gone], [
                    Lead(sound.name, grid=sound.grid, length=1) for sound in stage.leads
                ])
                bars = AllSettings(rest, name).longest()
                if bars is not None and bars < patience:
                    return [track.name for track in gone]

    def test_against_all_settings(self):
        seen = set()
        for stage, name in leads_of(small()):
            for patience in (1, 2, 3, 4, 64):
                made = silence(stage, name, patience)
                self.assertIs(type(made), list)
                self.assertEqual(made, self.expected(stage, name, patience))
                seen.add(len(made))
        self.assertTrue({0, 1, 2, 3} <= seen)

    def test_several_lists_of_the_same_length(self):
        tracks = [Track(name, clip("x" + name, "1", 4, 1, [at % 4])) for at, name in enumerate("edcba")]
        stage = Stage(tracks, [lead("horn", "1"), lead("pipe", "4"), lead("bell", "2", 1, ["c", "e"])])
        for patience, expected in ((1, "edcba"), (2, "edcb"), (3, "edc"), (4, "ed"), (5, "ed"), (64, "ed")):
            self.assertEqual(silence(stage, "horn", patience), list(expected))
        self.assertEqual(silence(stage, "pipe", 2), list("edcba"))
        self.assertEqual(silence(stage, "bell", 2), list("edcb"))

    def test_a_later_list_may_be_the_only_short_one(self):
        tracks = [Track("a", clip("b", "1", 8, 1, [0])), Track("c", clip("d", "1", 8, 1, [0])),
                  Track("e", clip("f", "1", 2, 2, [0]))]
        stage = Stage(tracks, [lead("horn", "1")])
        self.assertEqual([silence(stage, "horn", patience) for patience in (2, 3, 4, 5, 6)],
                         [["a", "c"], ["e"], ["a"], ["a"], []])

    def test_the_empty_list(self):
        self.assertEqual(silence(bare(), "horn", 1), [])
        self.assertEqual(silence(quiet(), "horn", 1), [])
        self.assertEqual(silence(duo(), "horn", 4), [])
        self.assertEqual(silence(limits(4, 8, 16, 32, 64, 128), "horn", 64), [])
        self.assertEqual(silence(limits(4, 8, 16, 32, 64, 128), "pipe", 1), [])

    def test_stages_at_the_limits(self):
        stage = limits(4, 8, 16, 32, 64, 128)
        self.assertEqual(silence(stage, "horn", 1), ["t0", "t1", "t2", "t3", "t4", "t5"])
        self.assertEqual(silence(stage, "horn", 63), ["t0"])
        self.assertEqual(silence(ladder(), "horn", 64), ["track0"])
        for patience in (2, 5, 20):
            names = silence(stage, "horn", patience)
            self.assertLess(longest(stage.without(*names), "horn").bars, patience)

    def test_patiences_that_are_refused(self):
        for patience in REFUSED:
            for stage in (duo(), bare(), ladder()):
                self.assert_raises_with(BadNumber, {"value": patience}, silence, stage, "horn", patience)
            self.assert_raises_with(Unknown, {"name": "x"}, silence, duo(), "x", patience)

    def test_unknown_leads(self):
        for name in ("drums", "kick", ""):
            self.assert_raises_with(Unknown, {"name": name}, silence, duo(), name, 3)

    def test_lists_are_new(self):
        stage = duo()
        before = state(stage)
        silence(stage, "horn", 1).clear()
        self.assertEqual(silence(stage=stage, lead="horn", patience=1), ["drums", "metal"])
        self.assertEqual(state(stage), before)


if __name__ == "__main__":
    unittest.main()
