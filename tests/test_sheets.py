"""Points 2, 23 and 46: sheets of bars."""

import unittest

from barclips.bars import walk
from barclips.errors import BadNumber, BadSetting, EmptyClip, OffGrid, Unknown
from barclips.grids import Grid
from barclips.sheets import sheet
from barclips.sounds import Lead
from barclips.stages import Stage
from barclips.tracks import Track
from tests.helpers import FAR, GridTests
from tests.scenes import Bars, bare, clip, drawn, duo, ladder, lead, rings, settings_of, stages
from tests.test_bars import ladder_setting


class SheetTests(GridTests):
    def test_against_the_bars(self):
        for stage in stages() + drawn(10, 95):
            for setting in settings_of(stage, 4):
                for sound in stage.leads:
                    bars = Bars(stage, sound.name, setting)
                    for since in (0, 1, -17, FAR, -FAR):
                        first = bars.first_from(since)
                        expected = []
                        for number in range(first, first + 9):
                            told = ",".join(name for name, _ in bars.closed_by(number)) or "open"
                            expected.append(str(number).rjust(6) + " " + str(bars.tick(number)).rjust(8) + " " + told)
                        made = sheet(stage, sound.name, setting, since, 9)
                        self.assertIs(type(made), list)
                        self.assertEqual(made, expected)
                        self.assertEqual(sheet(stage, sound.name, tuple(setting), since, 9), expected)

    def test_by_hand(self):
        self.assertEqual(sheet(duo(), "horn", [("kick", 4), ("hat", 4)], -4, 5), [
            "    -1       -4 drums",
            "     0        0 open",
            "     1        4 drums,metal",
            "     2        8 open",
            "     3       12 drums",
        ])
        self.assertEqual(sheet(ladder(), "horn", ladder_setting(), 0, 2), [
            "     0        0 track0", "     1        2 track1",
        ])
        self.assertEqual(sheet(stage=bare(), lead="horn", setting=[], since=1, count=1), ["     0        1 open"])

    def test_six_closers(self):
        tracks = [Track(f"t{at}", clip(f"c{at}", "1", 2, 1, [0])) for at in (3, 1, 5, 0, 2, 4)]
        stage = Stage(tracks, [lead("horn", "1")])
        setting = [(f"c{at}", 0) for at in (3, 1, 5, 0, 2, 4)]
        self.assertEqual(sheet(stage, "horn", setting, 0, 2), [
            "     0        0 t3,t1,t5,t0,t2,t4", "     1        1 open",
        ])
        setting[2] = None
        self.assertEqual(sheet(stage, "horn", setting, 0, 1), ["     0        0 t3,t1,t0,t2,t4"])

    def test_long_numbers(self):
        stage = Stage([], [lead("horn", "1"), lead("pipe", "100"), Lead("bell", grid=Grid(FAR, 7), length=1)])
        for since, expected in (
            (99999, " 99999    99999 open"), (999999, "999999   999999 open"), (-99999, "-99999   -99999 open"),
            (9999999, "9999999  9999999 open"), (-9999999, "-9999999 -9999999 open"),
            (12345678, "12345678 12345678 open"), (123456789, "123456789 123456789 open"),
        ):
            self.assertEqual(sheet(stage, "horn", [], since, 1), [expected])
        self.assertEqual(sheet(stage, "pipe", [], 99999900, 2), ["999999 99999900 open", "1000000 100000000 open"])
        self.assertEqual(sheet(stage, "bell", [], 0, 2), ["     0        7 open", f"     1 {FAR + 7} open"])
        self.assertEqual(sheet(stage, "bell", [], -FAR, 1), [f"    -1 {7 - FAR} open"])
        big = 10**3999
        self.assertEqual(sheet(stage, "horn", [], big, 1), [f"{big} {big} open"])

    def test_counts(self):
        for count in (0, 1, 2, 199, 200):
            made = sheet(duo(), "pipe", [("kick", 0), ("hat", 4)], 5, count)
            self.assertEqual(len(made), count)
            self.assertEqual([line.split() for line in made], [
                [str(number), str(tick), "metal" if shut else "open"]
                for number, tick, shut in walk(duo(), "pipe", [("kick", 0), ("hat", 4)], 5, count)
            ])

    def test_counts_that_are_refused(self):
        for count in (-1, -2, 201, 202, FAR, -FAR):
            self.assert_raises_with(BadNumber, {"value": count}, sheet, duo(), "horn", [None, None], 0, count)
            self.assert_raises_with(BadNumber, {"value": count}, sheet, bare(), "horn", [], 0, count)

    def test_the_order_of_the_checks(self):
        for setting, error, values in (
            ([None], BadSetting, {"size": 1}), ([("x", 0), None, None, None], Unknown, {"name": "x"}),
            ([None, ("blank", 2), None, None], EmptyClip, {"name": "blank"}),
            ([("kick", 3), None, None, None], OffGrid, {"tick": 3}),
        ):
            for count in (0, 5, -1, 201):
                for given in (setting, tuple(setting)):
                    self.assert_raises_with(error, values, sheet, rings(), "horn", given, 0, count)
                    for name in ("drums", "kick", ""):
                        self.assert_raises_with(Unknown, {"name": name}, sheet, rings(), name, given, 0, count)

    def test_lists_are_new(self):
        setting = [("kick", 0), None]
        sheet(duo(), "horn", setting, 0, 3).clear()
        self.assertEqual(len(sheet(duo(), "horn", setting, 0, 3)), 3)
        self.assertEqual(setting, [("kick", 0), None])


if __name__ == "__main__":
    unittest.main()
