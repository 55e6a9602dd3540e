"""Points 2 and 35: the longest waits of a stage with a recorded clip."""

import unittest

from barclips.errors import BadNumber, NotEmpty, Unknown
from barclips.grids import Grid
from barclips.records import recordings
from barclips.sounds import Clip, Lead
from barclips.stages import Stage
from barclips.tracks import Track
from barclips.waits import longest
from tests.helpers import FAR, GridTests, state
from tests.scenes import clip, lead, quiet, rings
from tests.slow_desk import live_stages
from tests.slow_waits import AllSettings


def with_empty_clips(amount, seed):
    """Stages with the name of an empty clip and the name of a lead."""
    found = []
    for stage in live_stages(amount, seed):
        for track in stage.tracks:
            for sound in stage.leads[:2] if track.empty else ():
                found.append((stage, track.clips[0].name, sound.name))
    return found


class RecordingsTests(GridTests):
    def test_against_recorded_stages(self):
        for stage, name, sound in with_empty_clips(40, 91):
            step = stage.find_clip(name).grid.step
            made = recordings(stage, name, sound, 16)
            self.assertIs(type(made), list)
            self.assertEqual(made, [
                longest(stage.recorded(name, step * many), sound).bars for many in range(1, 17)
            ])
            for most in (1, 2, 15):
                self.assertEqual(recordings(stage, name, sound, most), made[:most])

    def test_against_all_settings(self):
        seen = set()
        for stage, name, sound in with_empty_clips(16, 92):
            empty, made = stage.find_clip(name), recordings(stage, name, sound, 4)
            for many, bars in enumerate(made, 1):
                length = empty.grid.step * many
                full = Clip(name, grid=empty.grid, length=length,
                            guards=[guard for guard in empty.guards if guard < length])
                tracks = [Track(track.name, full) if name in track else track for track in stage.tracks]
                self.assertEqual(bars, AllSettings(Stage(tracks, stage.leads), sound).longest())
                seen.add(bars)
        self.assertTrue({None, 0, 1, 2} <= seen, seen)

    def test_by_hand(self):
        stage = Stage([Track("tape", clip("blank", "2", None, 1, [0, 2, 5])), Track("drums", clip("kick", "1", 4))],
                      [lead("horn", "2"), lead("pipe", "1"), lead("bell", "4")])
        # The lengths 2, 4, 6 and so on have the guards 0; 0 and 2; and then all.
        self.assertEqual(recordings(stage, "blank", "horn", 6), [None, None, 2, 2, 2, 2])
        self.assertEqual(recordings(stage, "blank", "pipe", 6), [1, 1, 2, 1, 1, 1])
        self.assertEqual(recordings(stage, "blank", "bell", 3), [None, None, 2])
        self.assertEqual(recordings(stage=stage, name="blank", lead="horn", most=1), [None])
        self.assertEqual(recordings(quiet(), "blank", "horn", 16), [0] * 16)

    def test_large_steps(self):
        stage = Stage([Track("tape", Clip("blank", grid=Grid(FAR, 3), length=None, guards=[0, FAR + 1]))],
                      [Lead("horn", grid=Grid(FAR, 3), length=1), Lead("pipe", grid=Grid(1), length=1)])
        self.assertEqual(recordings(stage, "blank", "horn", 3), [None, 1, 1])
        self.assertEqual(recordings(stage, "blank", "pipe", 2), [1, 1])

    def test_faults(self):
        for name in ("tape", "horn", "nobody", ""):
            for sound in ("horn", "nobody"):
                for most in (1, 0, 17):
                    self.assert_raises_with(Unknown, {"name": name}, recordings, rings(), name, sound, most)
        for name in ("kick", "rim", "pad"):
            for sound in ("horn", "nobody"):
                for most in (1, 0, 17):
                    self.assert_raises_with(NotEmpty, {"name": name}, recordings, rings(), name, sound, most)
        for sound in ("blank", "tape", "nobody", ""):
            for most in (1, 0, 17):
                self.assert_raises_with(Unknown, {"name": sound}, recordings, rings(), "blank", sound, most)
        for most in (0, -1, 17, 18, FAR, -FAR):
            self.assert_raises_with(BadNumber, {"value": most}, recordings, rings(), "blank", "horn", most)

    def test_the_stage_is_unchanged(self):
        stage = rings()
        before = state(stage)
        recordings(stage, "blank", "horn", 3).clear()
        self.assertEqual(len(recordings(stage, "blank", "horn", 3)), 3)
        self.assertEqual(state(stage), before)


if __name__ == "__main__":
    unittest.main()
