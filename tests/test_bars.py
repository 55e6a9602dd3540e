"""Points 2 and 23 to 26: the bars of a lead."""

import inspect
import unittest

from barclips.bars import Gate, Lockout, Opening, Verdict, closings, verdict, walk
from barclips.errors import BadNumber, BadSetting, EmptyClip, OffGrid, Unknown
from barclips.grids import Grid
from barclips.sounds import Clip, Lead
from barclips.stages import Stage
from barclips.tracks import Track
from tests.helpers import FAR, GridTests, state
from tests.scenes import (
    Bars, bare, clip, closers_at, coprime, duo, guarded, huge, ladder, lead, place_at, quiet, rings, settings_of,
    single, stages, turns,
)

SINCES = list(range(-40, 41)) + [FAR, FAR + 1, FAR + 2, -FAR, -FAR + 1]
LADDER_ENTRIES = ((0, 0), (1, 2), (2, 6), (3, 14), (4, 30), (5, 62))


def ladder_setting(more=0):
    """The setting of `ladder` in which every bar is closed, moved by so many ticks."""
    return [(f"clip{at}", tick + more) for at, tick in LADDER_ENTRIES]


def lists_of(found):
    """The tuples of `closings` with the numbers of their grids."""
    return [(name, place, grid.step, grid.offset) for name, place, grid in found]


class LeadCheckTests(GridTests):
    """Point 23: the lead is checked before the setting, and the setting before all else."""

    calls = (
        closings,
        lambda stage, name, setting: verdict(stage, name, setting, 0),
        lambda stage, name, setting: list(walk(stage, name, setting, 0, 5)),
    )

    def test_unknown_leads(self):
        for call in self.calls:
            for setting in ([("kick", 4), None], [None], [("x", 0), None], [("kick", 1), None]):
                for name in ("drums", "kick", "", "hor", "Horn"):
                    self.assert_raises_with(Unknown, {"name": name}, call, duo(), name, setting)
            self.assert_raises_with(Unknown, {"name": "a"}, call, Stage([]), "a", [])

    def test_settings_that_are_refused(self):
        for setting, error, values in (
            ([None], BadSetting, {"size": 1}), ([("x", 0), None, None, None], Unknown, {"name": "x"}),
            ([None, ("blank", 2), None, None], EmptyClip, {"name": "blank"}),
            ([("kick", 3), None, None, None], OffGrid, {"tick": 3}),
        ):
            for call in self.calls:
                self.assert_raises_with(error, values, call, rings(), "horn", setting)
                self.assert_raises_with(error, values, call, rings(), "horn", tuple(setting))

    def test_settings_come_before_the_count(self):
        for count in (-1, 201):
            self.assert_raises_with(
                Unknown, {"name": "x"}, lambda *given: list(walk(*given)), duo(), "x", [None], 0, count
            )
            self.assert_raises_with(
                BadSetting, {"size": 1}, lambda *given: list(walk(*given)), duo(), "horn", [None], 0, count
            )


class ClosingsTests(GridTests):
    def test_against_the_bars(self):
        for stage in stages():
            for setting in settings_of(stage, 10):
                for found in stage.leads:
                    bars = Bars(stage, found.name, setting)
                    made = closings(stage, found.name, setting)
                    self.assertIs(type(made), list)
                    self.assertEqual(lists_of(made), self.expected(stage, bars))
                    self.assertEqual(lists_of(closings(stage, found.name, tuple(setting))), lists_of(made))

    def expected(self, stage, bars):
        """For each guarded place that is met, the distance of its bars and the first of them."""
        made = []
        for track in stage.tracks:
            for place in guarded(track):
                met = [number for number in range(2 * bars.many) if (track.name, place) in bars.closed_by(number)]
                if met:
                    made.append((track.name, place, met[1] - met[0], met[0]))
        return made

    def test_every_number_of_a_grid_and_no_other(self):
        for stage in (duo(), rings(), turns()):
            for setting in settings_of(stage, 6):
                for found in stage.leads:
                    made = closings(stage, found.name, setting)
                    for number in range(-60, 60):
                        tick = found.grid.offset + found.grid.step * number
                        closed = [(name, place) for name, place, grid in made if number in grid]
                        self.assertEqual(sorted(closed), sorted(closers_at(stage, setting, tick)))

    def test_places_that_are_never_met(self):
        stage = duo()
        self.assertEqual(lists_of(closings(stage, "pipe", [("kick", 0), ("hat", 0)])), [])
        self.assertEqual(lists_of(closings(stage, "pipe", [("kick", 4), ("hat", 0)])), [("drums", 0, 1, 0)])
        self.assertEqual(lists_of(closings(stage, "pipe", [("kick", 0), ("hat", 12)])), [("metal", 0, 2, 1)])
        self.assertEqual(lists_of(closings(turns(), "horn", [("riff", 0)])),
                         [("loop", place, 6, (place - 1) // 2) for place in (1, 3, 5, 7, 9, 11)])
        self.assertEqual(lists_of(closings(turns(), "horn", [("riff", 8)])),
                         [("loop", place, 6, (place + 7) // 2 % 6) for place in (1, 3, 5, 7, 9, 11)])

    def test_silent_tracks_and_tracks_without_guards(self):
        for stage in stages():
            for found in stage.leads:
                self.assertEqual(closings(stage, found.name, [None] * len(stage.tracks)), [])
        self.assertEqual(closings(quiet(), "horn", [("kick", 4), None]), [])
        self.assertEqual(closings(bare(), "horn", []), [])
        self.assertEqual(lists_of(closings(duo(), "horn", [None, ("hat", -4)])), [("metal", 0, 4, 3)])

    def test_the_order(self):
        self.assertEqual(
            lists_of(closings(coprime(), "each", [("tick", 0), ("tock", 1), ("tack", 2)])),
            [("two", 1, 2, 1), ("three", 0, 3, 1), ("three", 2, 3, 0), ("five", 4, 5, 1)],
        )
        self.assertEqual(
            lists_of(closings(rings(), "pipe", [("snare", 9), None, None, None])),
            [("drums", 0, 12, 3), ("drums", 2, 12, 5), ("drums", 3, 12, 6), ("drums", 5, 12, 8), ("drums", 7, 12, 10)],
        )

    def test_launch_grids_with_large_steps(self):
        stage, setting = huge(), [("kick", FAR + 5), ("low", 7)]
        made = closings(stage, "horn", setting)
        self.assertEqual([(name, place, grid.step) for name, place, grid in made], [
            ("drums", 0, 2 * FAR - 2), ("drums", FAR - 2, 2 * FAR - 2), ("drums", FAR - 1, 2 * FAR - 2),
            ("drums", 2 * FAR - 3, 2 * FAR - 2), ("bass", 4, 9),
        ])
        for name, place, grid in made:
            for number in (grid.offset, grid.offset - grid.step, grid.offset + FAR * grid.step):
                tick = 7 + (FAR + 1) * number
                entered, period = (FAR + 5, 2 * FAR - 2) if name == "drums" else (7, 9)
                self.assertEqual((tick - entered) % period, place)

    def test_steps_are_as_short_as_they_can_be(self):
        # The period of the drums is a multiple of 3, the step of the lead.
        step = (2 * FAR - 2) // 3
        self.assertEqual(lists_of(closings(huge(), "pipe", [("kick", 5), ("low", 1)])), [
            ("drums", 0, step, 1), ("drums", FAR - 1, step, (FAR + 2) // 3), ("bass", 4, 3, 1),
        ])
        self.assertEqual(lists_of(closings(huge(), "pipe", [None, ("low", 7 - 6 * FAR)])), [("bass", 4, 3, 1)])

    def test_lists_are_new(self):
        stage, setting = duo(), [("kick", 4), ("hat", 0)]
        closings(stage, "horn", setting).clear()
        self.assertEqual(len(closings(stage, "horn", setting)), 2)
        self.assertEqual(setting, [("kick", 4), ("hat", 0)])
        self.assertEqual(len(closings(stage=stage, lead="horn", setting=setting)), 2)


class VerdictTests(GridTests):
    def assert_opening(self, made, name, number, tick, tries):
        self.assertIs(type(made), Opening)
        self.assertEqual(vars(made), {"lead": name, "number": number, "tick": tick, "tries": tries})
        self.assertEqual(made.line(), f"{name} begins at {tick} after {tries} closed bars")
        self.assertIs(bool(made), True)

    def assert_lockout(self, made, name, owners):
        self.assertIs(type(made), Lockout)
        self.assertIs(type(made.owners), tuple)
        self.assertEqual(vars(made), {"lead": name, "owners": owners})
        self.assertEqual(made.line(), f"{name} is locked out by a cycle of {len(owners)} bars")
        self.assertIs(bool(made), False)

    def test_the_classes(self):
        for kind in (Opening, Lockout):
            self.assertTrue(issubclass(kind, Verdict))
            self.assertTrue("line" in vars(kind))
        self.assertFalse(issubclass(Opening, Lockout))
        self.assertFalse(issubclass(Lockout, Opening))

    def test_against_the_bars(self):
        for stage in stages():
            for setting in settings_of(stage, 10):
                for found in stage.leads:
                    bars = Bars(stage, found.name, setting)
                    for since in SINCES[::3] + [2, 3]:
                        self.assert_verdict(bars, stage, found.name, setting, since)

    def assert_verdict(self, bars, stage, name, setting, since):
        made = verdict(stage, name, setting, since)
        first = bars.first_from(since)
        number = bars.next_open(first)
        if number is None:
            self.assert_lockout(made, name, bars.owners())
        else:
            self.assert_opening(made, name, number, bars.tick(number), number - first)

    def test_an_opening_at_once(self):
        self.assert_opening(verdict(duo(), "horn", [None, None], 0), "horn", 0, 0, 0)
        self.assert_opening(verdict(duo(), "horn", [None, None], 1), "horn", 1, 4, 0)
        self.assert_opening(verdict(duo(), "horn", [("kick", 0), None], 1), "horn", 1, 4, 0)
        self.assert_opening(verdict(duo(), "horn", [("kick", 0), None], 4), "horn", 1, 4, 0)
        self.assert_opening(verdict(bare(), "horn", [], -1), "horn", 0, 1, 0)
        self.assert_opening(verdict(stage=bare(), lead="horn", setting=[], since=-3), "horn", -1, -3, 0)
        self.assert_opening(verdict(bare(), "horn", (), FAR), "horn", FAR // 4, FAR + 1, 0)

    def test_an_opening_after_closed_bars(self):
        self.assert_opening(verdict(duo(), "horn", [("kick", 0), None], 0), "horn", 1, 4, 1)
        self.assert_opening(verdict(duo(), "horn", [("kick", 0), ("hat", 4)], 0), "horn", 3, 12, 3)
        self.assert_opening(verdict(duo(), "horn", [("kick", 0), ("hat", 4)], -7), "horn", -1, -4, 0)
        self.assert_opening(verdict(duo(), "horn", [("kick", 0), ("hat", 4)], -3), "horn", 3, 12, 3)
        self.assert_opening(verdict(duo(), "horn", [("kick", 0), ("hat", 4)], 16 * FAR - 3), "horn", 4 * FAR + 3,
                            16 * FAR + 12, 3)
        self.assert_opening(verdict(duo(), "horn", [("kick", 0), ("hat", 4)], 3 - 16 * FAR), "horn", 3 - 4 * FAR,
                            12 - 16 * FAR, 2)

    def test_an_opening_after_as_many_bars_as_there_can_be(self):
        # Six guarded places that leave one open bar in 64.
        lengths = (4, 8, 16, 32, 64, 128)
        tracks = [Track(f"t{at}", clip(f"c{at}", "2", length, guards=[0])) for at, length in enumerate(lengths)]
        stage = Stage(tracks, [lead("horn", "2")])
        setting = [(f"c{at}", tick) for at, tick in LADDER_ENTRIES]
        self.assert_opening(verdict(stage, "horn", setting, 0), "horn", 63, 126, 63)
        self.assert_opening(verdict(stage, "horn", setting, -1), "horn", 63, 126, 63)
        self.assert_opening(verdict(stage, "horn", setting, -2), "horn", -1, -2, 0)
        self.assert_opening(verdict(stage, "horn", setting, 127), "horn", 127, 254, 63)

    def test_lockouts_with_cycles_of_different_lengths(self):
        wall = single()
        self.assert_lockout(verdict(wall, "pipe", [("brick", 0)], 5), "pipe", (("wall", 0), ("wall", 3)))
        self.assert_lockout(verdict(wall, "pipe", [("brick", 7)], 5), "pipe", (("wall", 5), ("wall", 2)))
        self.assert_lockout(verdict(wall, "bell", [("brick", 0)], 5), "bell", tuple(("wall", at) for at in range(6)))
        self.assert_lockout(verdict(wall, "horn", [("brick", 0)], 5), "horn",
                            tuple(("wall", at) for at in (0, 5, 4, 3, 2, 1)))
        one = Stage([Track("a", clip("b", "1", 3, guards=[1]))], [lead("horn", "3+1")])
        self.assert_lockout(verdict(one, "horn", [("b", 0)], 0), "horn", (("a", 1),))
        self.assert_opening(verdict(one, "horn", [("b", 1)], 0), "horn", 0, 1, 0)

    def test_the_longest_cycle(self):
        half = [0, 1, 0, 2, 0, 1, 0, 3, 0, 1, 0, 2, 0, 1, 0]
        owners = tuple((f"track{at}", 0) for at in half + [4] + half + [5])
        for since in (-FAR, -1, 0, 7, FAR):
            self.assert_lockout(verdict(ladder(), "horn", ladder_setting(), since), "horn", owners)
        turned = tuple(owners[(at - 1) % 32] for at in range(32))
        self.assert_lockout(verdict(ladder(), "horn", ladder_setting(2), 0), "horn", turned)
        third = tuple(owners[at * 3 % 32] for at in range(32))
        self.assert_lockout(verdict(ladder(), "bell", ladder_setting(), 0), "bell", third)

    def test_a_cycle_that_is_not_the_common_period(self):
        # The clip repeats after 6 bars, but two of its guards own the bars by turns.
        stage = Stage([Track("a", clip("b", "1", 6, guards=[0, 2, 4])), Track("c", clip("d", "1", 2, guards=[1]))],
                      [lead("horn", "1"), lead("pipe", "2")])
        self.assert_lockout(verdict(stage, "pipe", [("b", 0), ("d", 0)], 0), "pipe", (("a", 0), ("a", 2), ("a", 4)))
        self.assert_lockout(verdict(stage, "pipe", [("b", 0), ("d", 1)], 0), "pipe", (("c", 1),))
        self.assert_lockout(verdict(stage, "horn", [("b", 0), ("d", 0)], 0), "horn",
                            (("a", 0), ("c", 1), ("a", 2), ("c", 1), ("a", 4), ("c", 1)))
        self.assert_opening(verdict(stage, "horn", [("b", 0), ("d", 1)], 0), "horn", 1, 1, 1)

    def test_each_owner_is_the_first_possible_one(self):
        twins = [Track(name, clip("x" + name, "1", 2, guards=[0])) for name in ("b", "a", "d", "c")]
        stage = Stage(twins, [lead("horn", "1"), lead("pipe", "2")])
        self.assert_lockout(verdict(stage, "horn", [("xb", 0), ("xa", 1), ("xd", 0), ("xc", 1)], 0), "horn",
                            (("b", 0), ("a", 0)))
        self.assert_lockout(verdict(stage, "horn", [("xb", 1), ("xa", 1), ("xd", 0), ("xc", 0)], 0), "horn",
                            (("d", 0), ("b", 0)))
        self.assert_lockout(verdict(stage, "pipe", [("xb", 1), ("xa", 0), ("xd", 0), None], 0), "pipe", (("a", 0),))
        self.assert_lockout(verdict(stage, "pipe", [None, ("xa", 1), None, ("xc", 2)], 0), "pipe", (("c", 0),))

    def test_steps_of_hundreds_of_digits(self):
        stage = Stage(
            [Track("a", Clip("b", grid=Grid(FAR), length=2 * FAR, guards=[FAR - 3])),
             Track("c", Clip("d", grid=Grid(1), length=2 * FAR, guards=[0]))],
            [Lead("horn", grid=Grid(FAR, FAR - 3), length=FAR)],
        )
        self.assert_lockout(verdict(stage, "horn", [("b", 0), ("d", 2 * FAR - 3)], -FAR), "horn",
                            (("a", FAR - 3), ("c", 0)))
        self.assert_lockout(verdict(stage, "horn", [("b", FAR), ("d", FAR - 3)], -FAR), "horn",
                            (("c", 0), ("a", FAR - 3)))
        self.assert_opening(verdict(stage, "horn", [("b", 0), ("d", FAR - 4)], -3), "horn", -1, -3, 0)
        self.assert_opening(verdict(stage, "horn", [("b", 0), ("d", FAR - 4)], -2), "horn", 1, 2 * FAR - 3, 1)
        self.assert_opening(verdict(stage, "horn", [("b", FAR), None], -3), "horn", 0, FAR - 3, 1)


class GateTests(GridTests):
    def test_against_the_bars(self):
        for stage in stages():
            for setting in settings_of(stage, 6):
                for found in stage.leads:
                    gate = Gate(stage, found.name)
                    for tick in SINCES:
                        on_bar = (tick - found.grid.offset) % found.grid.step == 0
                        expected = on_bar and not closers_at(stage, setting, tick)
                        self.assertIs(gate(setting, tick), expected)
                        self.assertIs(gate(tuple(setting), tick), expected)

    def test_bars_and_other_ticks(self):
        gate = Gate(duo(), "pipe")
        for tick, opened in ((4, False), (12, True), (0, False), (8, False), (5, False), (-4, True), (-12, False)):
            self.assertIs(gate([None, ("hat", 4)], tick), opened)
        self.assertIs(Gate(stage=duo(), lead="horn")(setting=[None, None], tick=8), True)
        self.assertIs(Gate(duo(), "horn")([None, None], 9), False)

    def test_unknown_leads(self):
        for name in ("drums", "", "x"):
            self.assert_raises_with(Unknown, {"name": name}, Gate, duo(), name)

    def test_settings_are_checked_at_every_tick(self):
        gate = Gate(rings(), "drone")
        for tick in (11, 12, 0, -1):
            self.assert_raises_with(BadSetting, {"size": 1}, gate, [None], tick)
            self.assert_raises_with(Unknown, {"name": "x"}, gate, [("x", 1), None, None, None], tick)
            self.assert_raises_with(EmptyClip, {"name": "blank"}, gate, [None, ("blank", 2), None, None], tick)
            self.assert_raises_with(OffGrid, {"tick": 1}, gate, [("kick", 1), None, None, None], tick)

    def test_a_gate_may_be_called_again_and_again(self):
        stage = ladder()
        gate = Gate(stage, "horn")
        before = state(stage)
        self.assertEqual([gate(ladder_setting(), 2 * number) for number in range(40)], [False] * 40)
        silenced = [None] + ladder_setting()[1:]
        self.assertEqual([gate(silenced, 2 * number) for number in range(4)], [True, False, True, False])
        self.assertEqual(state(stage), before)


class WalkTests(GridTests):
    def test_against_the_bars(self):
        for stage in stages():
            for setting in settings_of(stage, 6):
                for found in stage.leads:
                    bars = Bars(stage, found.name, setting)
                    for since in SINCES[::5] + [1, 2, 3, 4]:
                        first = bars.first_from(since)
                        self.assertEqual(
                            list(walk(stage, found.name, setting, since, 7)),
                            [(at, bars.tick(at), bars.closed_by(at)) for at in range(first, first + 7)],
                        )

    def test_counts(self):
        for count in (0, 1, 2, 199, 200):
            found = list(walk(duo(), "pipe", [("kick", 0), ("hat", 4)], 5, count))
            self.assertEqual([number for number, _, _ in found], list(range(1, count + 1)))
            self.assertEqual([tick for _, tick, _ in found], [12 + 8 * at for at in range(count)])
            self.assertEqual([shut for _, _, shut in found], [[("metal", 0)] if at % 2 else [] for at in range(count)])

    def test_counts_that_are_refused(self):
        for count in (-FAR, -1, 201, 202, FAR):
            self.assert_raises_with(
                BadNumber, {"value": count}, lambda *given: list(walk(*given)), duo(), "horn", [None, None], 0, count
            )

    def test_the_beginning(self):
        for since, number in ((0, 0), (1, 1), (3, 1), (4, 1), (5, 2), (-1, 0), (-4, -1), (-5, -1),
                              (FAR + 1, FAR // 4 + 1), (-FAR, -FAR // 4)):
            self.assertEqual(list(walk(duo(), "horn", [None, None], since, 2)),
                             [(number, 4 * number, []), (number + 1, 4 * number + 4, [])])

    def test_it_is_a_generator(self):
        self.assertTrue(inspect.isgeneratorfunction(walk))
        steps = walk(stage=duo(), lead="horn", setting=[("kick", 0), None], since=0, count=3)
        self.assertTrue(inspect.isgenerator(steps))
        self.assertEqual(next(steps), (0, 0, [("drums", 0)]))
        self.assertEqual(list(steps), [(1, 4, []), (2, 8, [("drums", 0)])])

    def test_items(self):
        for item in walk(duo(), "horn", (("kick", 0), None), 0, 3):
            self.assertIs(type(item), tuple)
            self.assertIs(type(item[2]), list)

    def test_lists_of_closers_are_new(self):
        stage, setting = single(), [("brick", 0)]
        found = []
        for number, _, shut in walk(stage, "pipe", setting, 0, 6):
            found.append((number, list(shut)))
            shut.append("more")
        self.assertEqual(found, [(at, [("wall", at * 3 % 6)]) for at in range(6)])
        self.assertEqual(setting, [("brick", 0)])

    def test_a_setting_that_is_changed_meanwhile(self):
        setting = [("kick", 0), None]
        found = []
        for _, _, shut in walk(duo(), "horn", setting, 0, 4):
            found.append(shut)
            setting[0] = None
            setting.append(None)
        self.assertEqual(found, [[("drums", 0)], [], [("drums", 0)], []])

    def test_a_track_with_several_guards_is_at_one_place(self):
        for _, tick, shut in walk(turns(), "pipe", [("riff", 4)], -30, 40):
            place = place_at(turns().tracks[0], ("riff", 4), tick)
            self.assertEqual(shut, [("loop", place)] if place % 2 else [])


if __name__ == "__main__":
    unittest.main()
