"""Points 2, 20, 21 and 23 over the whole program: lists that are given and returned, settings and leads."""

import unittest

from barclips.bars import Gate, closings, verdict, walk
from barclips.counts import bar_parting, nth_open, open_between, open_share
from barclips.deeds import perform
from barclips.desks import Desk
from barclips.errors import BadSetting, EmptyClip, OffGrid, Unknown
from barclips.gaps import cycle_of, first_gap, needless
from barclips.grids import Grid
from barclips.papers import check_owners, check_reach, check_tree
from barclips.partings import parting
from barclips.patience import enough, latest, silence, swallowing
from barclips.records import recordings
from barclips.settings import check_setting, closers, moved, playing, same_sound
from barclips.shares import gap_share, gaps_between, nth_gap
from barclips.sheets import sheet
from barclips.sounds import Clip, Lead
from barclips.stages import Stage
from barclips.together import apart_pair, next_meeting, together
from barclips.tracks import Track
from barclips.waits import longest, worst
from barclips.ways import ways
from tests.helpers import FAR, GridTests, state
from tests.scenes import duo, lead, rings
from tests.slow_desk import view_of
from tests.test_desks import taper

GRIDS = [Grid(2), Grid(3, 1), Grid(12, 3)]
SHUT = [Grid(2), Grid(4, 1), Grid(4, 3)]
SETTING = [("snare", 9), None, ("low", 3), ("pad", 6)]
WALL = [("brick", 0)]
KICK = Clip("kick", grid=Grid(4), length=8, guards=[0, 2])
OWNERS = [("wall", 0), ("wall", 1), ("wall", 2)]


def wall():
    """One track, at guarded steps always."""
    return Stage([Track("wall", Clip("brick", grid=Grid(1), length=3, guards=[0, 1, 2]))], [lead("horn", "1")])


def with_setting():
    """Functions of a stage, a lead and a setting, each with what else is given."""
    return [
        (closings, ()), (verdict, (5,)), (lambda *given: list(walk(*given)), (5, 9)), (open_between, (-3, 70)),
        (nth_open, (4, 6)), (open_share, ()), (lambda stage, name, given, tick: Gate(stage, name)(given, tick), (7,)),
        (lambda stage, name, given: bar_parting(stage, name, given, [None] * 4, 3), ()),
        (lambda stage, name, given: bar_parting(stage, name, [None] * 4, given, 3), ()),
        (check_reach, (2, 3)), (check_owners, ([("drums", 0)],)), (sheet, (5, 9)),
    ]


class ListTests(GridTests):
    """Each case is a function and what it is given; each list is given as a list and as a tuple."""

    cases = [
        (first_gap, GRIDS, 5), (cycle_of, SHUT), (cycle_of, GRIDS), (needless, GRIDS), (gaps_between, GRIDS, -5, 99),
        (nth_gap, GRIDS, -5, 7), (gap_share, GRIDS), (parting, GRIDS, SHUT, 0), (parting, GRIDS, GRIDS, 0),
        (lambda given: Clip("a", grid=Grid(2), length=9, guards=given), [0, 3, 8]),
        (lambda given: Clip("a", grid=Grid(2), length=None, guards=given), [0, 3, 8]),
        (lambda given: Lead("a", grid=Grid(2), length=9, stops=given), ["x", "drums"]),
        (Stage, [Track("drums", KICK)], [lead("horn", "4", 6, ["drums"])]),
        (check_setting, rings(), SETTING), (playing, rings(), SETTING, 17), (closers, rings(), SETTING, 10),
        (moved, SETTING, 7), (same_sound, rings(), SETTING, [None] * 4), (same_sound, rings(), SETTING, SETTING),
        (bar_parting, rings(), "pipe", SETTING, [None] * 4, 3), (check_owners, wall(), "horn", WALL, OWNERS),
        (next_meeting, rings(), SETTING, 8, ("snare", 1), ("low", 0)), (verdict, wall(), "horn", WALL, 7),
        *[(call, rings(), "pipe", SETTING, *more) for call, more in with_setting()],
        (lambda given: Desk(taper()).attempt(given), [("press", "kick"), ("press", "kick"), ("wait", 9)]),
    ]
    # Calls that are given no list but return one.
    returning = [
        (lambda: Grid(3, 1) // 4), KICK.words, lead("horn", "4+1", 6, ["a"]).words, (lambda: ways(rings(), "pipe", 2)),
        (lambda: silence(duo(), "horn", 1)), (lambda: recordings(rings(), "blank", "horn", 3)),
        (lambda: perform(Desk(taper()), "press kick\nwait 9")), (lambda: Desk(duo()).entries),
    ]

    def changed(self, given, kind):
        return [kind(item) if type(item) is list else item for item in given]

    def test_tuples_do_the_same(self):
        for call, *given in self.cases:
            self.assertTrue(any(type(item) is list for item in given))
            self.assertEqual(state(call(*self.changed(given, tuple))), state(call(*self.changed(given, list))))

    def test_given_lists_are_unchanged(self):
        for call, *given in self.cases:
            before = state(given)
            call(*given)
            self.assertEqual(state(given), before)

    def test_given_lists_are_copied(self):
        for call, *given in self.cases:
            lists = self.changed(given, list)
            made = call(*lists)
            before = state(made)
            for item in lists:
                if type(item) is list:
                    item.clear()
            self.assertEqual(state(made), before)

    def test_returned_lists_are_new(self):
        for call, *given in self.cases + [(call,) for call in self.returning]:
            before, made = state(given), call(*given)
            told = state(made)
            if type(made) is list:
                for item in made:
                    if type(item) is list:
                        item.append("x")
                made.reverse()
                made.append("x")
            self.assertEqual(state(call(*given)), told)
            self.assertEqual(state(given), before)

    def test_named_tuples_are_tuples(self):
        # Where a point names a tuple, a tuple is returned.
        self.assertIs(type(verdict(wall(), "horn", WALL, 7).owners), tuple)
        self.assertIs(type(longest(rings(), "pipe").setting), tuple)
        self.assertIs(type(worst(wall(), "horn", 7).owners), tuple)
        self.assertIs(type(swallowing(rings(), "pipe", 1)[1]), tuple)
        self.assertIs(type(together(rings(), ("pad", 1)).setting), tuple)
        self.assertEqual([type(item) for item in (KICK.guards, lead("a", "1", 1, ["b"]).stops, duo().tracks,
                                                  duo().leads, duo().tracks[0].clips, duo().tracks[0].places)],
                         [tuple] * 6)


class SettingTests(GridTests):
    """The checks of a setting and of a lead, in each function that takes them."""

    faults = (
        ([], BadSetting, {"size": 0}), ([None] * 3, BadSetting, {"size": 3}), ([None] * 5, BadSetting, {"size": 5}),
        ([("x", 0)] * 5, BadSetting, {"size": 5}), ([("low", 1), None, None, None], Unknown, {"name": "low"}),
        ([None, None, ("kick", 0), ("pad", 1)], Unknown, {"name": "kick"}),
        ([("kick", 0), ("blank", 2), ("x", 1), None], EmptyClip, {"name": "blank"}),
        ([("kick", 1), ("blank", 2), None, None], OffGrid, {"tick": 1}),
        ([None, None, ("low", 2 * FAR), ("pad", 1)], OffGrid, {"tick": 2 * FAR}),
    )
    plain = (
        check_setting, lambda stage, given: playing(stage, given, 4), lambda stage, given: closers(stage, given, 4),
        lambda stage, given: same_sound(stage, given, [None]),
        lambda stage, given: same_sound(stage, [None] * 4, given),
        lambda stage, given: next_meeting(stage, given, 4, ("x", 0)),
        lambda stage, given: next_meeting(stage, given, 4),
    )
    leads = (
        lambda stage, name: Gate(stage, name), lambda stage, name: ways(stage, name, -1), longest,
        lambda stage, name: worst(stage, name, 3), lambda stage, name: check_tree(stage, name, (0, ()), limit=-1),
        lambda stage, name: swallowing(stage, name, 0), enough, lambda stage, name: latest(stage, name, 3),
        lambda stage, name: silence(stage, name, 65), lambda stage, name: recordings(stage, "blank", name, 0),
    )

    def test_settings(self):
        for given, error, values in self.faults:
            for setting in (given, tuple(given)):
                for call in self.plain:
                    self.assert_raises_with(error, values, call, rings(), setting)
                for call, more in with_setting():
                    self.assert_raises_with(error, values, call, rings(), "horn", setting, *more)

    def test_leads(self):
        for name in ("drums", "kick", "nobody", "", "Horn"):
            for call in self.leads:
                self.assert_raises_with(Unknown, {"name": name}, call, rings(), name)
            for call, more in with_setting():
                for setting in [SETTING] + [given for given, _, _ in self.faults]:
                    self.assert_raises_with(Unknown, {"name": name}, call, rings(), name, setting, *more)

    def test_functions_without_a_lead(self):
        self.assertEqual(apart_pair(rings(), ("pad", 0), ("low", 0)), None)


class LargeNumberTests(unittest.TestCase):
    """Numbers up to 10^400 are taken, and those that the program returns."""

    def test_returned_numbers_may_be_passed_on(self):
        big = 10**400 - 1
        stage = Stage([Track("a", Clip("b", grid=Grid(big, -big), length=big, rounds=2, guards=[0, big - 1])),
                       Track("c", Clip("d", grid=Grid(big - 2), length=None, guards=[big - 5]))],
                      [Lead("horn", grid=Grid(big - 1, 1 - big), length=big)])
        wait = longest(stage, "horn")
        tick = stage.leads[0].grid.tick_of(wait.number)
        told = verdict(stage, "horn", wait.setting, tick)
        self.assertEqual((told.number, told.tries), (wait.number + wait.bars, wait.bars))
        far = nth_open(stage, "horn", wait.setting, -big, big)
        self.assertEqual(open_between(stage, "horn", wait.setting, -big, far), big)
        desk = Desk(stage, far)
        desk.arm("c")
        due = desk.press("d")
        desk.advance(due - far)
        desk.attempt([("press", "d"), ("hold", "horn"), ("wait", big), ("press", "b"), ("wait", far)])
        self.assertEqual(desk.stage.find_clip("d").length, big - 2)
        self.assertEqual(check_setting(desk.stage, desk.entries), 2)
        before = view_of(desk)["items"]
        self.assertEqual(playing(desk.stage, desk.entries, desk.now), before)
        self.assertTrue(check_tree(stage, "horn", wait.tree, limit=wait.bars))


if __name__ == "__main__":
    unittest.main()
