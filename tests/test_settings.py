"""Points 2 and 20 to 22: settings."""

import unittest

from barclips.errors import BadSetting, EmptyClip, OffGrid, Unknown
from barclips.settings import check_setting, closers, moved, playing, same_sound
from tests.helpers import FAR, GridTests
from tests.scenes import (
    bare, closers_at, duo, huge, ladder, playing_at, quiet, repeat_of, rings, settings_of, stages, turns,
)

TICKS = list(range(-45, 46)) + [FAR, FAR + 1, -FAR, -FAR - 7]
RIGHT = [("kick", 4), None, ("high", -10), ("pad", 3)]

# Settings of the stage `rings` that are refused, with their errors.
REFUSED = (
    ([], BadSetting, {"size": 0}),
    ([None], BadSetting, {"size": 1}),
    ([None] * 3, BadSetting, {"size": 3}),
    ([None] * 5, BadSetting, {"size": 5}),
    ([("x", 0)] * 5, BadSetting, {"size": 5}),
    ([("x", 0)] * 300, BadSetting, {"size": 300}),
    ([("x", 0), None, None, None], Unknown, {"name": "x"}),
    ([("", 0), None, None, None], Unknown, {"name": ""}),
    ([("drums", 0), None, None, None], Unknown, {"name": "drums"}),
    ([("horn", 0), None, None, None], Unknown, {"name": "horn"}),
    ([("low", 1), None, None, None], Unknown, {"name": "low"}),
    ([("blank", 2), None, None, None], Unknown, {"name": "blank"}),
    ([None, ("kick", 0), None, None], Unknown, {"name": "kick"}),
    ([None, ("blank", 2), None, None], EmptyClip, {"name": "blank"}),
    ([None, ("blank", 3), None, None], EmptyClip, {"name": "blank"}),
    ([("kick", 1), None, None, None], OffGrid, {"tick": 1}),
    ([("kick", -2), None, None, None], OffGrid, {"tick": -2}),
    ([("snare", 4), None, None, None], OffGrid, {"tick": 4}),
    ([("snare", 6), None, None, None], OffGrid, {"tick": 6}),
    ([("kick", FAR + 2), None, None, None], OffGrid, {"tick": FAR + 2}),
    ([None, None, None, ("pad", -FAR)], OffGrid, {"tick": -FAR}),
    # Two faults at once: the first entry that is faulty, and in an entry the clip before the tick.
    ([("x", 1), None, None, None], Unknown, {"name": "x"}),
    ([("kick", 1), ("blank", 2), None, None], OffGrid, {"tick": 1}),
    ([("kick", 4), ("blank", 2), ("x", 0), None], EmptyClip, {"name": "blank"}),
    ([None, ("blank", 2), ("low", 2), None], EmptyClip, {"name": "blank"}),
    ([None, None, ("low", 2), ("pad", 1)], OffGrid, {"tick": 2}),
    ([None, None, ("low", 1), ("pad", 1)], OffGrid, {"tick": 1}),
    ([None, None, ("pad", 1), ("low", 0)], Unknown, {"name": "pad"}),
    ([("kick", 4), None, ("high", 10), ("rim", 0)], Unknown, {"name": "rim"}),
)


class CheckTests(GridTests):
    calls = (
        check_setting,
        lambda stage, setting: playing(stage, setting, 3),
        lambda stage, setting: closers(stage, setting, 3),
        lambda stage, setting: same_sound(stage, setting, RIGHT),
        lambda stage, setting: same_sound(stage, RIGHT, setting),
    )

    def test_the_number_of_tracks_that_are_not_silent(self):
        for stage in stages() + [huge()]:
            for setting in settings_of(stage, 12):
                sounding = len(setting) - setting.count(None)
                self.assertEqual(check_setting(stage, setting), sounding)
                self.assertEqual(check_setting(stage, tuple(setting)), sounding)
        self.assertEqual(check_setting(bare(), []), 0)
        self.assertEqual(check_setting(stage=rings(), setting=RIGHT), 3)

    def test_ticks_of_either_sign_and_of_hundreds_of_digits(self):
        for tick in (-FAR, -4, 0, 4, FAR, FAR - 4):
            self.assertEqual(check_setting(rings(), [("kick", tick), None, ("low", tick + 1), None]), 2)

    def test_settings_that_are_refused(self):
        for setting, error, values in REFUSED:
            for call in self.calls:
                for given in (setting, tuple(setting)):
                    self.assert_raises_with(error, values, call, rings(), given)

    def test_settings_of_a_stage_without_tracks(self):
        for size in (1, 2, 7):
            self.assert_raises_with(BadSetting, {"size": size}, check_setting, bare(), [None] * size)

    def test_a_recorded_clip_is_taken(self):
        stage = rings().recorded("blank", 8)
        self.assertEqual(check_setting(stage, [None, ("blank", 7), None, None]), 1)
        self.assert_raises_with(OffGrid, {"tick": 3}, check_setting, stage, [None, ("blank", 3), None, None])


class PlayingTests(GridTests):
    def test_against_the_rings(self):
        for stage in stages():
            for setting in settings_of(stage, 8):
                for tick in TICKS:
                    found = playing(stage, setting, tick)
                    self.assertEqual(found, playing_at(stage, setting, tick))
                    self.assertIs(type(found), list)
                    self.assertTrue(all(item is None or type(item) is tuple for item in found))

    def test_a_setting_is_timeless(self):
        stage = rings()
        setting = [("snare", 9), None, ("high", -10), None]
        for tick, drums, bass in (
            (9, ("snare", 0, 0), ("high", 0, 1)), (13, ("snare", 0, 4), ("low", 0, 3)),
            (14, ("rim", 0, 0), ("high", 0, 0)), (15, ("kick", 0, 0), ("high", 0, 1)),
            (18, ("kick", 1, 0), ("low", 0, 2)), (8, ("kick", 1, 2), ("high", 0, 0)),
            (3, ("kick", 0, 0), ("high", 0, 1)), (2, ("rim", 0, 0), ("high", 0, 0)),
            (-3, ("snare", 0, 0), ("high", 0, 1)), (-7, ("kick", 0, 2), ("low", 0, 1)),
            (-10, ("rim", 0, 0), ("high", 0, 0)),
        ):
            self.assertEqual(playing(stage, setting, tick), [drums, None, bass, None])
        self.assertEqual(playing(stage=stage, setting=setting, tick=9)[0], ("snare", 0, 0))

    def test_turns(self):
        stage = turns()
        for tick in TICKS:
            place = (tick - 8) % 12
            self.assertEqual(playing(stage, [("riff", 8)], tick), [("riff", place // 4, place % 4)])

    def test_large_steps(self):
        stage = huge()
        setting = [("kick", FAR + 5), ("low", -5)]
        for tick, kick, low in (
            (FAR + 5, (0, 0), 2), (4, (0, FAR - 3), 0), (5, (0, FAR - 2), 1), (6, (1, 0), 2), (-5, (0, FAR - 12), 0),
            (2 * FAR + 3, (0, FAR - 2), 1), (2 * FAR + 4, (1, 0), 2), (FAR + 4, (1, FAR - 2), 1),
        ):
            self.assertEqual(playing(stage, setting, tick), [("kick", *kick), ("low", 0, low)])

    def test_no_tracks(self):
        self.assertEqual(playing(bare(), [], 5), [])
        self.assertEqual(closers(bare(), (), 5), [])


class ClosersTests(GridTests):
    def test_against_the_rings(self):
        for stage in stages():
            for setting in settings_of(stage, 8):
                for tick in TICKS:
                    found = closers(stage, setting, tick)
                    self.assertEqual(found, closers_at(stage, setting, tick))
                    self.assertIs(type(found), list)

    def test_before_and_after_the_entries(self):
        stage = duo()
        setting = [("kick", 4), ("hat", 12)]
        for tick in range(-64, 65):
            expected = ([("drums", 0)] if tick % 8 == 4 else []) + ([("metal", 0)] if tick % 16 == 12 else [])
            self.assertEqual(closers(stage, setting, tick), expected)
        self.assertEqual(closers(stage=stage, setting=setting, tick=12), [("drums", 0), ("metal", 0)])

    def test_each_round_has_places_of_its_own(self):
        found = [closers(turns(), [("riff", 0)], tick) for tick in range(12)]
        expected = [[("loop", tick)] if tick % 2 else [] for tick in range(12)]
        self.assertEqual(found, expected)

    def test_large_ticks(self):
        stage = huge()
        setting = [("kick", 5), None]
        period = 2 * (FAR - 1)
        for turn in (-FAR, -1, 0, 1, FAR):
            for place in (0, FAR - 2, FAR - 1, period - 1):
                self.assertEqual(closers(stage, setting, 5 + turn * period + place), [("drums", place)])
            for place in (1, FAR - 3, FAR, period - 2):
                self.assertEqual(closers(stage, setting, 5 + turn * period + place), [])

    def test_lists_are_new(self):
        stage, setting = duo(), [("kick", 4), None]
        for call in (playing, closers):
            first = call(stage, setting, 4)
            first.append("more")
            self.assertEqual(len(call(stage, setting, 4)), len(first) - 1)


class MovedTests(GridTests):
    def test_both_directions(self):
        for ticks in (-FAR, -5, -1, 0, 1, 5, FAR):
            for setting in (RIGHT, tuple(RIGHT)):
                found = moved(setting, ticks)
                self.assertIs(type(found), list)
                self.assertEqual(found, [("kick", 4 + ticks), None, ("high", ticks - 10), ("pad", 3 + ticks)])
        self.assertEqual(RIGHT, [("kick", 4), None, ("high", -10), ("pad", 3)])
        self.assertEqual(moved(setting=[], ticks=5), [])

    def test_the_list_is_new(self):
        setting = [None, ("kick", 4)]
        for ticks in (0, 3):
            found = moved(setting, ticks)
            self.assertIsNot(found, setting)
            found[0] = ("x", 1)
            self.assertEqual(setting, [None, ("kick", 4)])

    def test_nothing_is_checked(self):
        self.assertEqual(moved([("", 1)] * 9 + [("A b", -3)], 2), [("", 3)] * 9 + [("A b", -1)])

    def test_the_sound_moves_too(self):
        stage = ladder()
        for setting in settings_of(stage, 5):
            for tick in range(20):
                self.assertEqual(playing(stage, moved(setting, 6), tick + 6), playing(stage, setting, tick))


class SameSoundTests(GridTests):
    def assert_same(self, stage, first, second, same):
        self.assertIs(same_sound(stage, first, second), same)
        self.assertIs(same_sound(stage, second, first), same)
        self.assertIs(same_sound(stage, tuple(first), tuple(second)), same)

    def test_against_every_tick(self):
        for stage in stages():
            settings = settings_of(stage, 14)
            for first in settings:
                for second in settings:
                    same = all(
                        playing_at(stage, first, tick) == playing_at(stage, second, tick)
                        for tick in range(repeat_of(stage))
                    )
                    self.assert_same(stage, first, second, same)

    def test_whole_periods(self):
        stage = rings()
        for periods in (-FAR, -3, -1, 1, 2, FAR):
            later = [("kick", 4 + 12 * periods), None, ("high", -10 + 30 * periods), ("pad", 3 + 6 * periods)]
            self.assert_same(stage, RIGHT, later, True)
            self.assert_same(stage, RIGHT, later[:3] + [None], False)
            self.assert_same(stage, RIGHT, later[:3] + [("pad", 3 + 6 * periods + 3)], False)

    def test_another_clip_that_sounds_the_same(self):
        stage = rings()
        self.assert_same(stage, [None, None, ("low", 5), None], [None, None, ("high", 0), None], False)
        self.assert_same(stage, [("kick", 0), None, None, None], [("rim", 11), None, None, None], True)
        self.assert_same(stage, [("kick", 0), None, None, None], [("rim", -1), None, None, None], True)
        self.assert_same(stage, [("kick", 0), None, None, None], [("rim", 0), None, None, None], False)
        self.assert_same(stage, [("snare", 3), None, None, None], [("rim", 8), None, None, None], True)
        self.assert_same(stage, [("snare", 3), None, None, None], [("rim", 9), None, None, None], False)

    def test_turns_are_told_apart(self):
        self.assert_same(turns(), [("riff", 0)], [("riff", 4)], False)
        self.assert_same(turns(), [("riff", 0)], [("riff", 12)], True)

    def test_tracks_without_guards_are_compared(self):
        self.assert_same(quiet(), [("kick", 0), None], [("kick", 4), None], False)
        self.assert_same(quiet(), [("kick", 0), None], [("kick", 8), None], True)

    def test_silent_tracks(self):
        self.assert_same(duo(), [None, None], [None, None], True)
        self.assert_same(duo(), [("kick", 0), None], [None, None], False)
        self.assert_same(duo(), [("kick", 0), None], [None, ("hat", 0)], False)
        self.assert_same(bare(), [], [], True)

    def test_the_first_setting_is_checked_first(self):
        for setting, error, values in REFUSED:
            for other, _, _ in REFUSED:
                self.assert_raises_with(error, values, same_sound, rings(), setting, other)
        self.assertIs(same_sound(stage=duo(), first=[None, None], second=[None, None]), True)


if __name__ == "__main__":
    unittest.main()
