"""Points 2, 28, 30 and 31: the greatest wait over all settings, and the tree that shows it."""

import unittest

from barclips.bars import verdict
from barclips.errors import Unknown
from barclips.grids import Grid
from barclips.settings import check_setting
from barclips.sounds import Clip, Lead
from barclips.stages import Stage
from barclips.tracks import Track
from barclips.waits import Wait, longest, worst
from barclips.ways import ways
from tests.helpers import FAR, GridTests, state
from tests.scenes import (
    Bars, bare, bars_of, clip, coprime, drawn, duo, huge, ladder, lead, limits, quiet, rings, single, stages, turns,
    uneven,
)
from tests.slow_waits import AllSettings, SlowTree, greatest_bar

NUMBERS = (0, 1, 2, 3, 7, -1, -2, -13, 64, FAR, FAR + 1, -FAR, -FAR - 5)
LONG = limits(4, 8, 16, 32, 64, 128)


def small_stages():
    """Stages all of whose settings can be tried."""
    return [duo(), rings(), coprime(), single(), turns(), uneven(), quiet(), bare()] + drawn(60, 3)


def leads_of(found):
    return [(stage, sound.name) for stage in found for sound in stage.leads]


def pairs_of_guards(stage):
    """The stages in which one of the guards is left out."""
    for track in stage.tracks:
        for entered in track.clips:
            for guard in entered.guards:
                yield changed(stage, lambda each: each if each is not entered else Clip(
                    each.name, grid=each.grid, length=each.length, rounds=each.rounds,
                    guards=[other for other in each.guards if other != guard],
                ))


def changed(stage, change, move=lambda grid: grid):
    """The stage with changed clips and moved grids of the leads."""
    tracks = [Track(track.name, *[change(each) for each in track.clips]) for track in stage.tracks]
    leads = [Lead(each.name, grid=move(each.grid), length=each.length, stops=each.stops) for each in stage.leads]
    return Stage(tracks, leads)


def later(stage, ticks):
    """The stage with all grids moved by so many ticks."""
    return changed(stage, lambda each: Clip(
        each.name, grid=each.grid + ticks, length=each.length, rounds=each.rounds, guards=each.guards,
    ), lambda grid: grid + ticks)


def times(stage, factor):
    """The stage with all grids, lengths and guards multiplied."""
    return changed(stage, lambda each: Clip(
        each.name, grid=Grid(each.grid.step * factor, each.grid.offset * factor),
        length=None if each.length is None else each.length * factor, rounds=each.rounds,
        guards=[guard * factor for guard in each.guards],
    ), lambda grid: Grid(grid.step * factor, grid.offset * factor))


def one_round(each):
    """The clip with its rounds written out."""
    if each.length is None:
        return each
    guards = [turn * each.length + guard for turn in range(each.rounds) for guard in each.guards]
    return Clip(each.name, grid=each.grid, length=each.span, guards=guards)


class WaitTests(GridTests):
    def assert_wait(self, stage, name, made, bars):
        """The wait is this one, and its bar, setting, owners and tree agree with it."""
        self.assertIs(type(made), Wait)
        self.assertEqual(sorted(vars(made)), ["bars", "number", "owners", "setting", "tree"])
        self.assertEqual(made.bars, bars)
        self.assertIs(made.forever, bars is None)
        self.assertIs(type(made.setting), tuple)
        check_setting(stage, made.setting)
        grid = stage.find_lead(name).grid
        told = verdict(stage, name, made.setting, grid.offset + grid.step * made.number)
        if bars is None:
            self.assertFalse(told)
            self.assertEqual((made.owners, made.tree), (told.owners, None))
        else:
            self.assertEqual((told.number, told.tries), (made.number + bars, bars))
            self.assertIs(made.owners, None)
            self.assertEqual(greatest_bar(made.tree), bars)

    def assert_walked(self, stage, name, made):
        """The bar and the setting have the told wait, bar by bar."""
        bars = Bars(stage, name, made.setting)
        number = bars.next_open(made.number)
        self.assertEqual(None if number is None else number - made.number, made.bars)

    def test_longest_against_all_settings(self):
        for stage, name in leads_of(small_stages()):
            made = longest(stage, name)
            self.assert_wait(stage, name, made, AllSettings(stage, name).longest())
            self.assert_walked(stage, name, made)

    def test_worst_against_all_settings(self):
        for stage, name in leads_of(small_stages()):
            model = AllSettings(stage, name)
            for number in NUMBERS:
                made = worst(stage, name, number)
                self.assertEqual(made.number, number)
                self.assert_wait(stage, name, made, model.worst(number))
                self.assert_walked(stage, name, made)

    def test_the_greatest_worst_is_longest(self):
        for stage, name in leads_of(small_stages()[:30]) + [(LONG, "horn")]:
            many = 8 if stage is LONG else bars_of(stage, name)
            found = [worst(stage, name, number).bars for number in range(many)]
            self.assertEqual(None if None in found else max(found), longest(stage, name).bars)

    def test_stages_that_close_nothing(self):
        for stage in (bare(), quiet(), Stage([], [lead("horn", "7+3"), lead("pipe", "1")]),
                      Stage([Track("tape", clip("blank", "4", None, 1, [0, 1, 2]))], [lead("horn", "4")])):
            for sound in stage.leads:
                for made in [longest(stage, sound.name)] + [worst(stage, sound.name, at) for at in NUMBERS]:
                    self.assert_wait(stage, sound.name, made, 0)
                    self.assertEqual((made.tree, made.setting), ((0, ()), (None,) * len(stage.tracks)))

    def test_one_guard(self):
        for length, step, bars in ((2, 1, 1), (1, 1, None), (1, 3, None), (4, 2, 1), (4, 4, None), (3, 2, 1)):
            stage = Stage([Track("a", clip("b", "1", length, 1, [0]))], [lead("horn", str(step))])
            self.assert_wait(stage, "horn", longest(stage, "horn"), bars)
            self.assert_wait(stage, "horn", worst(stage, "horn", -5), bars)

    def test_all_but_one_class_of_bars(self):
        # Five bars in six can be closed, and no more.
        stage = Stage([Track("a", clip("b", "1", 2, 1, [0])), Track("c", clip("d", "1", 3, 1, [0])),
                       Track("e", clip("f", "1", 6, 1, [1]))], [lead("horn", "1"), lead("pipe", "2")])
        self.assert_wait(stage, "horn", longest(stage, "horn"), 5)
        self.assert_wait(stage, "pipe", longest(stage, "pipe"), None)

    def test_waits_near_the_greatest_ones(self):
        for stage, bars, thirds in (
            (LONG, 63, 63), (limits(4, 8, 16, 32, 64, 128, first=4), 63, 63),
            # A third of the bars of the bell meets the last track three times as often.
            (limits(4, 8, 16, 32, 64, 64 * 3), 63, None),
            (limits(4, 8, 16, 32, 128, 128), 47, 47), (limits(4, 8, 16, 32, 64, 64), None, None),
        ):
            for name, bars in (("bell", thirds), ("horn", bars)):
                made = longest(stage, name)
                self.assert_wait(stage, name, made, bars)
                self.assert_walked(stage, name, made)
            self.assertEqual(longest(stage, "pipe").bars, 0)
            for number in (0, 5, -1, -FAR):
                self.assert_wait(stage, "horn", worst(stage, "horn", number), bars)

    def test_a_wait_at_some_bars_alone(self):
        # The second clip lets the track be at its guard at every other bar of the lead.
        stage = Stage([Track("a", clip("b", "4", 4, 1, [0]))], [lead("horn", "2")])
        self.assertEqual([worst(stage, "horn", number).bars for number in range(-3, 4)], [0, 1, 0, 1, 0, 1, 0])
        stage = Stage([Track("a", clip("b", "12", 4, 1, [0]), clip("c", "8+4", 8))], [lead("horn", "1")])
        self.assertEqual([worst(stage, "horn", number).bars for number in range(12)], [1, 0, 0, 0] * 3)

    def test_launch_grids_that_never_meet_the_bars(self):
        stage = Stage([Track("a", clip("b", "4", 4, 1, [0])), Track("c", clip("d", "6+2", 6, 1, [1]))],
                      [lead("horn", "4+1"), lead("pipe", "2"), lead("bell", "6+3")])
        self.assertEqual([longest(stage, name).bars for name in ("horn", "pipe", "bell")], [1, 1, None])
        self.assertEqual([worst(stage, "horn", number).bars for number in range(6)], [0, 0, 1, 0, 0, 1])
        self.assertEqual(longest(stage, "horn").tree, (0, (("c", 1, "d", (1, ())),)))
        stage = Stage([Track("a", clip("b", "4", 4, 1, [0, 2]))], [lead("horn", "4+1")])
        self.assert_wait(stage, "horn", longest(stage, "horn"), 0)

    def test_two_clips_of_one_track_with_different_launch_grids(self):
        stage = Stage([Track("a", clip("b", "4", 4, 1, [0]), clip("c", "8+1", 4))], [lead("horn", "1")])
        self.assertEqual(longest(stage, "horn").tree, (0, (("a", 0, "b", (1, ())), ("a", 0, "c", (1, ())))))
        self.assertEqual(worst(stage, "horn", 0).tree, (0, (("a", 0, "b", (1, ())),)))
        self.assertEqual(worst(stage, "horn", 5).tree, (0, (("a", 0, "c", (1, ())),)))
        self.assertEqual(worst(stage, "horn", 2).tree, (0, ()))

    def test_all_owners(self):
        made = longest(ladder(), "horn")
        self.assert_wait(ladder(), "horn", made, None)
        self.assertEqual(len(made.owners), 32)
        self.assertEqual({owner for owner in made.owners}, {(f"track{at}", 0) for at in range(6)})
        made = worst(single(), "pipe", 7)
        self.assert_wait(single(), "pipe", made, None)
        self.assertEqual(len(made.owners), 2)

    def test_steps_of_many_digits(self):
        for factor in (3, 10**29 + 7, FAR // 10**5):
            for stage, name in leads_of([duo(), turns(), coprime()] + drawn(6, 4)):
                far = times(stage, factor)
                for number in (0, 1, -2, 10**30, -FAR):
                    bars = worst(stage, name, number).bars
                    self.assert_wait(far, name, worst(far, name, number), bars)
                self.assert_wait(far, name, longest(far, name), longest(stage, name).bars)

    def test_lengths_of_hundreds_of_digits(self):
        # Of three bars in a row each track closes one at most: the places at which the drums are guarded are a tick
        # or some FAR ticks apart, and the bass closes one of nine bars of the horn, one of three of the pipe.
        self.assert_wait(huge(), "horn", longest(huge(), "horn"), 2)
        self.assert_wait(huge(), "pipe", longest(huge(), "pipe"), 2)

    def test_unknown_leads(self):
        for name in ("drums", "kick", "", "Horn"):
            self.assert_raises_with(Unknown, {"name": name}, longest, duo(), name)
            for number in (0, -1, FAR):
                self.assert_raises_with(Unknown, {"name": name}, worst, duo(), name, number)

    def test_keywords(self):
        self.assertEqual(longest(stage=duo(), lead="horn").bars, 3)
        self.assertEqual(worst(stage=duo(), lead="horn", number=2).number, 2)

    def test_stages_are_unchanged(self):
        for stage, name in leads_of(stages()):
            before = state(stage)
            longest(stage, name)
            worst(stage, name, 3)
            self.assertEqual(state(stage), before)


class InvarianceTests(GridTests):
    """What does not change the greatest wait."""

    def test_moving_all_grids(self):
        for stage, name in leads_of(small_stages()[:25] + [LONG, ladder()]):
            bars = longest(stage, name).bars
            for ticks in (1, -7, 60, FAR // 3, -FAR):
                moved_stage = later(stage, ticks)
                self.assertEqual(longest(moved_stage, name).bars, bars)
                # The number of the bar that was bar 5 may be another one.
                grid = moved_stage.find_lead(name).grid
                number = grid.number_of(stage.find_lead(name).grid.tick_of(5) + ticks)
                self.assertEqual(worst(moved_stage, name, number).bars, worst(stage, name, 5).bars)

    def test_multiplying_everything(self):
        for stage, name in leads_of(small_stages()[:25] + [LONG, ladder()]):
            bars = longest(stage, name).bars
            for factor in (2, 15, 10**30 - 1):
                self.assertEqual(longest(times(stage, factor), name).bars, bars)

    def test_rounds_and_guards_written_out(self):
        found = [turns(), single(), rings(), uneven()] + drawn(30, 8)
        self.assertTrue(any(each.rounds > 1 for stage in found for track in stage.tracks for each in track))
        for stage, name in leads_of(found):
            flat = changed(stage, one_round)
            for made, other in ((longest(stage, name), longest(flat, name)),
                                (worst(stage, name, -3), worst(flat, name, -3))):
                self.assertEqual((made.bars, made.tree), (other.bars, other.tree))

    def test_leaving_guards_out_never_makes_a_wait_longer(self):
        for stage, name in leads_of(drawn(40, 5) + [uneven(), single(), ladder(), LONG]):
            bars = longest(stage, name).bars
            for fewer in pairs_of_guards(stage):
                found = longest(fewer, name).bars
                self.assertTrue(bars is None or (found is not None and found <= bars))


class TreeTests(GridTests):
    def test_longest_against_a_slow_reading(self):
        for stage, name in leads_of(small_stages()):
            made = longest(stage, name)
            if made.bars is not None:
                self.assertEqual(made.tree, SlowTree(stage, name).longest())

    def test_worst_against_a_slow_reading(self):
        for stage, name in leads_of(small_stages()):
            model = SlowTree(stage, name)
            for number in NUMBERS[::3]:
                made = worst(stage, name, number)
                if made.bars is not None:
                    self.assertEqual(made.tree, model.worst(number))

    def test_an_endless_wait_has_no_tree(self):
        for stage, name in ((ladder(), "horn"), (single(), "pipe"), (single(), "horn"), (ladder(), "bell")):
            self.assertIs(longest(stage, name).tree, None)
            self.assertIs(worst(stage, name, 9).tree, None)

    def test_kinds(self):
        def check(tree):
            self.assertIs(type(tree), tuple)
            self.assertIs(type(tree[1]), tuple)
            for branch in tree[1]:
                self.assertIs(type(branch), tuple)
                self.assertEqual([type(item) for item in branch], [str, int, str, tuple])
                check(branch[3])

        for stage in (duo(), coprime(), uneven(), LONG):
            check(longest(stage, stage.leads[0].name).tree)

    def test_the_root_has_all_ways(self):
        for stage, name in leads_of(stages() + drawn(30, 6)):
            made = longest(stage, name)
            if made.tree is not None:
                self.assertEqual([branch[:3] for branch in made.tree[1]], [way[:3] for way in ways(stage, name, 0)])

    def test_places_in_a_branch_are_guarded_ones(self):
        # Three bars on the track is at the guarded place 5, although it is at place 2 at the first bar.
        stage = Stage([Track("a", clip("b", "1", 3, 1, [0])), Track("c", clip("d", "2+1", 6, 1, [5]))],
                      [lead("horn", "1")])
        self.assertEqual(longest(stage, "horn").tree, (0, (
            ("a", 0, "b", (1, (("c", 5, "d", (2, ())),))),
            ("c", 5, "d", (1, (("a", 0, "b", (2, ())),))),
        )))
        # At this bar the second track is never at its guard, but one bar later it may be.
        self.assertEqual(worst(stage, "horn", 1).tree, (0, (("a", 0, "b", (1, (("c", 5, "d", (2, ())),))),)))
        self.assertEqual(worst(stage, "horn", 0).tree, (0, (
            ("a", 0, "b", (1, ())), ("c", 5, "d", (1, (("a", 0, "b", (2, ())),))),
        )))

    def test_chosen_ways_leave_fewer_first_bars(self):
        # Each way alone has a moment, but no first bar is a moment of both.
        stage = Stage([Track("a", clip("b", "4", 4, 1, [0])), Track("c", clip("d", "4+1", 4, 1, [0]))],
                      [lead("horn", "2"), lead("pipe", "1")])
        self.assertEqual(longest(stage, "horn").tree, (0, (("a", 0, "b", (1, ())),)))
        self.assertEqual(longest(stage, "pipe").tree, (0, (
            ("a", 0, "b", (1, (("c", 0, "d", (2, ())),))), ("c", 0, "d", (1, ())),
        )))

    def test_a_tree_at_the_limits(self):
        made = longest(LONG, "horn")
        self.assertEqual(greatest_bar(made.tree), 63)
        self.assertEqual([branch[:3] for branch in made.tree[1]], [
            ("t0", 0, "c0"), ("t0", 0, "d0"), ("t1", 0, "c1"), ("t1", 0, "d1"),
            ("t2", 0, "c2"), ("t3", 0, "c3"), ("t4", 0, "c4"), ("t5", 0, "c5"),
        ])
        self.assertEqual(self.depth(made.tree), 7)

    def depth(self, tree):
        return 1 + max([self.depth(branch[3]) for branch in tree[1]], default=0)


class ModelTests(unittest.TestCase):
    """The drawn stages are of many kinds."""

    def test_drawn_stages(self):
        found = [longest(stage, name).bars for stage, name in leads_of(drawn(60, 3))]
        self.assertTrue({None, 0, 1, 2, 3, 4, 5} <= set(found), sorted(set(found) - {None}))
        clips = [each for stage in drawn(60, 3) for track in stage.tracks for each in track.clips]
        self.assertTrue(any(each.rounds > 1 and each.guards for each in clips))
        self.assertTrue(any(each.length is None for each in clips))
        self.assertTrue(any(len(track.clips) == 3 for stage in drawn(60, 3) for track in stage.tracks))


if __name__ == "__main__":
    unittest.main()
