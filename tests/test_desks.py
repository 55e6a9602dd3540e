"""Points 2, 36 to 39 and 42: a desk, its deeds, and taking them back."""

import unittest

from barclips.desks import Desk
from barclips.errors import BadNumber, BadWord, NotArmed, NotEmpty, NotHeld, NothingToUndo, Unknown
from barclips.grids import Grid
from barclips.settings import check_setting
from barclips.sounds import Clip, Lead
from barclips.stages import Stage
from barclips.tracks import Track
from tests.helpers import FAR, GridTests, state
from tests.scenes import bare, clip, duo, lead, quiet, rings, turns
from tests.slow_desk import view_of

NOWS = (0, 1, 3, 4, 7, 8, -1, -4, -5, -13, FAR, FAR + 3, -FAR, 1 - FAR)


def taper():
    """An empty track and a full one, and leads that stop them."""
    return Stage(
        [Track("tape", clip("blank", "4+1", None, 1, [0, 6, 9])), Track("drums", clip("kick", "4", 8, 1, [0]))],
        [lead("horn", "4", 6, ["tape"]), lead("pipe", "2", 3)],
    )


def first_after(now, step, offset):
    """The first tick after now on a grid, by trying."""
    return next(tick for tick in range(now + 1, now + step + 1) if (tick - offset) % step == 0)


class DeskTests(GridTests):
    def assert_refused(self, desk, error, values, call, *given):
        """The call raises this error, and the desk is as it was, with what can be taken back."""
        before = (view_of(desk), state(desk))
        self.assert_raises_with(error, values, call, *given)
        self.assertEqual((view_of(desk), state(desk)), before)


class NewDeskTests(DeskTests):
    def test_a_new_desk(self):
        for stage in (duo(), rings(), taper(), quiet(), turns(), bare()):
            for desk, now in [(Desk(stage), 0)] + [(Desk(stage, at), at) for at in NOWS]:
                many, sounds = len(stage.tracks), len(stage.leads)
                self.assertIs(desk.stage, stage)
                self.assertEqual(view_of(desk), {
                    "stage": stage.write(), "now": now, "entries": [None] * many, "waiting": [None] * many,
                    "holds": [None] * sounds, "armed": [], "sounding": [], "events": [], "items": [None] * many,
                })
                for name in ("drums", "kick", "horn", "nobody", ""):
                    self.assertIs(name in desk, False)
                self.assertRaises(NothingToUndo, desk.undo)
        self.assertEqual(Desk(stage=duo(), now=5).now, 5)

    def test_lists_are_new(self):
        desk = Desk(taper())
        desk.arm("tape")
        desk.attempt([("press", "blank"), ("press", "kick"), ("hold", "horn"), ("wait", 5), ("press", "blank")])
        before = view_of(desk)
        for made in (desk.entries, desk.waiting, desk.holds, desk.armed, desk.sounding, list(desk)):
            self.assertIs(type(made), list)
            made.append(None)
            made[0] = "x"
            self.assertEqual(view_of(desk), before)
        events = desk.advance(20)
        before = view_of(desk)
        self.assertTrue(events)
        events.clear()
        self.assertEqual(view_of(desk), before)
        events = desk.attempt([("press", "kick"), ("press", "kick")])
        self.assertTrue(events)
        before = view_of(desk)
        events.clear()
        self.assertEqual(view_of(desk), before)

    def test_earlier_lists_stay_as_they_are(self):
        desk = Desk(taper())
        desk.press("kick")
        lists = [desk.entries, desk.waiting, desk.holds, desk.armed, desk.sounding, list(desk)]
        before = [list(each) for each in lists]
        desk.arm("tape")
        desk.hold("pipe")
        desk.advance(30)
        self.assertEqual(lists, before)

    def test_iteration(self):
        desk = Desk(duo())
        desk.press("kick")
        desk.advance(4)
        events = iter(desk)
        self.assertEqual(next(events), (4, "begins", "kick"))
        desk.stop("drums")
        desk.advance(4)
        # What is iterated over is the events as they were then.
        self.assertEqual(list(events), [])
        self.assertEqual(list(desk), [(4, "begins", "kick"), (8, "stops", "drums")])
        for event in desk:
            self.assertIs(type(event), tuple)
            desk.advance(1)
        self.assertEqual([word for _, word, _ in desk], ["begins", "stops"])

    def test_the_stage_is_unchanged(self):
        stage = taper()
        before = state(stage)
        desk = Desk(stage)
        desk.attempt([("arm", "tape"), ("press", "blank"), ("wait", 2), ("press", "blank"), ("wait", 30)])
        self.assertEqual(state(stage), before)
        self.assertEqual(desk.stage.find_clip("blank").length, 4)
        self.assertTrue(stage.find_track("tape").empty)

    def test_two_desks_of_one_stage(self):
        stage = taper()
        one, other = Desk(stage), Desk(stage)
        one.attempt([("arm", "tape"), ("press", "blank"), ("hold", "horn"), ("wait", 9)])
        self.assertEqual(view_of(other), view_of(Desk(taper())))

    def test_items(self):
        desk = Desk(rings(), 6)
        for name in ("drums", "tape", "bass", "keys"):
            self.assertIs(desk[name], None)
        for name in ("kick", "horn", "blank", "nobody", ""):
            self.assert_refused(desk, Unknown, {"name": name}, lambda at: desk[at], name)
        desk.press("kick")
        self.assertEqual(desk.advance(1), [])
        self.assertEqual((desk["drums"], "kick" in desk), (None, False))
        desk.advance(1)
        self.assertEqual((desk["drums"], "kick" in desk), (("kick", 0, 0), True))
        # Two rounds of three ticks, then five ticks of the snare and one of the rim.
        for tick, played in ((2, ("kick", 0, 2)), (3, ("kick", 1, 0)), (5, ("kick", 1, 2)), (6, ("snare", 0, 0)),
                             (10, ("snare", 0, 4)), (11, ("rim", 0, 0)), (12, ("kick", 0, 0)), (22, ("snare", 0, 4))):
            desk.go_to(8 + tick)
            self.assertEqual(desk["drums"], played)
            self.assertEqual([name for name in ("kick", "snare", "rim") if name in desk], [played[0]])
            self.assertEqual(desk.sounding, [played[0]])
        desk.stop("drums")
        self.assertEqual(desk["drums"], ("snare", 0, 4))
        desk.go_to(32)
        self.assertEqual((desk["drums"], desk.sounding, "kick" in desk, "drums" in desk), (None, [], False, False))

    def test_sounding_leads(self):
        desk = Desk(duo())
        desk.press("hat")
        desk.hold("horn")
        desk.hold("bell")
        # The bell lasts for one tick, the horn for six; it begins at 8, because the hat closes bar 4.
        for tick, sounding in ((0, []), (1, ["bell"]), (2, []), (4, ["hat"]), (7, ["hat"]), (8, ["hat", "horn"]),
                               (13, ["hat", "horn"]), (14, ["hat"])):
            desk.go_to(tick)
            self.assertEqual(desk.sounding, sounding)
            self.assertEqual([name for name in ("kick", "hat", "metal", "horn", "pipe", "bell") if name in desk],
                             sounding)
        desk.attempt([("press", "kick"), ("hold", "pipe"), ("hold", "horn"), ("wait", 14)])
        self.assertEqual((desk.now, desk.sounding), (28, ["kick", "hat", "horn", "pipe"]))

    def test_entries_are_a_setting(self):
        desk = Desk(rings())
        desk.attempt([("press", "snare"), ("press", "low"), ("press", "pad"), ("wait", 20)])
        self.assertEqual(check_setting(desk.stage, desk.entries), 3)
        self.assertEqual(desk.entries, [("snare", 3), None, ("low", 1), ("pad", 3)])


class PressTests(DeskTests):
    def test_the_first_launch_tick_after_now(self):
        for now in NOWS:
            for name, step, offset in (("kick", 4, 0), ("snare", 6, 3), ("rim", 1, 0), ("low", 2, 1), ("pad", 3, 0)):
                desk = Desk(rings(), now)
                due = first_after(now, step, offset)
                self.assertEqual(desk.press(name), due)
                self.assertEqual([change for change in desk.waiting if change], [("enter", name, due)])
                self.assertEqual(list(desk), [])
                self.assertEqual(desk.advance(due - now - 1), [])
                self.assertEqual(desk.advance(1), [(due, "begins", name)])
                self.assertEqual([entry for entry in desk.entries if entry], [(name, due)])
                self.assertEqual(desk.waiting, [None] * 4)

    def test_stops_are_due_on_the_grid_of_the_first_clip(self):
        for now in NOWS:
            for name, step, offset in (("drums", 4, 0), ("tape", 5, 2), ("bass", 2, 1), ("keys", 3, 0)):
                desk = Desk(rings(), now)
                due = first_after(now, step, offset)
                self.assertEqual(desk.stop(name), due)
                self.assertEqual([change for change in desk.waiting if change], [("stop", name, due)])
                # A silent track is not told to stop.
                self.assertEqual(desk.advance(due - now), [])
                self.assertEqual(desk.waiting, [None] * 4)

    def test_the_words_of_a_change(self):
        desk = Desk(taper())
        desk.arm("tape")
        self.assertEqual(desk.press("blank"), 1)
        self.assertEqual(desk.waiting, [("record", "blank", 1), None])
        self.assertEqual(desk.advance(1), [(1, "records", "blank")])
        self.assertEqual(desk.press("blank"), 5)
        self.assertEqual(desk.waiting, [("close", "blank", 5), None])
        self.assertEqual(desk.advance(4), [(5, "recorded", "blank")])
        self.assertEqual(desk.press("blank"), 9)
        self.assertEqual(desk.waiting, [("enter", "blank", 9), None])
        self.assertEqual(desk.advance(4), [(9, "begins", "blank")])

    def test_a_change_that_is_replaced(self):
        desk = Desk(rings(), 1)
        desk.press("kick")
        self.assertEqual(desk.press("snare"), 3)
        self.assertEqual(list(desk), [(1, "swallowed", "kick")])
        self.assertEqual(desk.waiting[0], ("enter", "snare", 3))
        desk.stop("drums")
        self.assertEqual(list(desk)[1:], [(1, "swallowed", "snare")])
        self.assertEqual(desk.waiting[0], ("stop", "drums", 4))
        desk.advance(1)
        self.assertEqual(desk.stop("drums"), 4)
        self.assertEqual(list(desk)[2:], [(2, "swallowed", "drums")])
        desk.press("rim")
        self.assertEqual(list(desk)[3:], [(2, "swallowed", "drums")])
        self.assertEqual(desk.press("rim"), 3)
        self.assertEqual(list(desk)[4:], [(2, "swallowed", "rim")])
        # The change of another track stays.
        desk.press("low")
        self.assertEqual(len(list(desk)), 5)
        self.assertEqual(desk.waiting, [("enter", "rim", 3), None, ("enter", "low", 3), None])

    def test_a_recording_that_is_replaced(self):
        desk = Desk(taper())
        desk.arm("tape")
        desk.press("blank")
        desk.press("blank")
        self.assertEqual(list(desk), [(0, "swallowed", "blank")])
        self.assertEqual(desk.waiting[0], ("record", "blank", 1))
        desk.advance(1)
        desk.press("blank")
        desk.advance(2)
        self.assertEqual(desk.press("blank"), 5)
        self.assertEqual(list(desk)[1:], [(1, "records", "blank"), (3, "swallowed", "blank")])
        self.assertEqual(desk.waiting[0], ("close", "blank", 5))
        desk.stop("tape")
        self.assertEqual(list(desk)[3:], [(3, "swallowed", "blank")])
        self.assertEqual(desk.waiting[0], ("stop", "tape", 5))

    def test_faults(self):
        desk = Desk(taper(), 3)
        for name in ("tape", "drums", "horn", "nobody", ""):
            self.assert_refused(desk, Unknown, {"name": name}, desk.press, name)
        for name in ("blank", "kick", "horn", "nobody", ""):
            self.assert_refused(desk, Unknown, {"name": name}, desk.stop, name)
        self.assert_refused(desk, NotArmed, {"name": "tape"}, desk.press, "blank")
        desk.press("kick")
        self.assert_refused(desk, NotArmed, {"name": "tape"}, desk.press, "blank")
        self.assert_refused(desk, Unknown, {"name": "x"}, desk.press, "x")
        self.assertEqual(desk.press(name="kick"), 4)
        self.assertEqual(desk.stop(name="drums"), 4)

    def test_a_full_track_need_not_be_armed(self):
        desk = Desk(taper())
        desk.attempt([("arm", "tape"), ("press", "blank"), ("wait", 1), ("press", "blank"), ("wait", 4)])
        self.assertEqual(desk.armed, [])
        self.assertEqual(desk.press("blank"), 9)


class HoldTests(DeskTests):
    def test_the_first_bar_after_now(self):
        for now in NOWS:
            for name, step, offset in (("horn", 2, 0), ("pipe", 1, 0), ("bell", 15, 7), ("drone", 12, 11)):
                for patience in (None, 1, 5, 64):
                    desk = Desk(rings(), now)
                    tick = first_after(now, step, offset)
                    self.assertEqual(desk.hold(name) if patience is None else desk.hold(name, patience), tick)
                    first = (tick - offset) // step
                    last = None if patience is None else first + patience - 1
                    self.assertEqual([held for held in desk.holds if held], [(first, last)])
                    self.assertEqual(desk.holds.index((first, last)), ["horn", "pipe", "bell", "drone"].index(name))
                    self.assertEqual((list(desk), desk.sounding), ([], []))

    def test_a_hold_that_is_replaced(self):
        desk = Desk(duo())
        self.assertEqual(desk.hold("horn", 3), 4)
        self.assertEqual((desk.holds[0], list(desk)), ((1, 3), []))
        self.assertEqual(desk.hold("horn"), 4)
        self.assertEqual((desk.holds[0], list(desk)), ((1, None), [(0, "swallowed", "horn")]))
        desk.press("kick")
        desk.advance(5)
        self.assertEqual(desk.hold("horn", patience=None), 8)
        self.assertEqual(desk.holds[0], (2, None))
        self.assertEqual(list(desk)[1:], [(4, "begins", "kick"), (5, "swallowed", "horn")])
        self.assertEqual(desk.hold(name="horn", patience=2), 8)
        self.assertEqual(desk.holds, [(2, 3), None, None])

    def test_patiences(self):
        for patience in (1, 2, 63, 64):
            self.assertEqual(Desk(duo()).hold("horn", patience), 4)
        desk = Desk(duo())
        desk.hold("pipe")
        for patience in (0, -1, 65, 66, FAR, -FAR):
            for name in ("horn", "pipe"):
                self.assert_refused(desk, BadNumber, {"value": patience}, desk.hold, name, patience)
            self.assert_refused(desk, Unknown, {"name": "x"}, desk.hold, "x", patience)

    def test_faults(self):
        desk = Desk(duo(), -3)
        for name in ("drums", "kick", "nobody", ""):
            self.assert_refused(desk, Unknown, {"name": name}, desk.hold, name)
            self.assert_refused(desk, Unknown, {"name": name}, desk.drop, name)
        for name in ("horn", "pipe", "bell"):
            self.assert_refused(desk, NotHeld, {"name": name}, desk.drop, name)
        desk.hold("horn")
        self.assert_refused(desk, NotHeld, {"name": "pipe"}, desk.drop, "pipe")

    def test_drop(self):
        desk = Desk(duo())
        desk.hold("horn")
        desk.hold("pipe", 2)
        desk.advance(2)
        self.assertIs(desk.drop("horn"), None)
        self.assertEqual((desk.holds, list(desk)), ([None, (0, 1), None], [(2, "dropped", "horn")]))
        self.assert_refused(desk, NotHeld, {"name": "horn"}, desk.drop, "horn")
        self.assertIs(desk.drop(name="pipe"), None)
        self.assertEqual(desk.advance(100), [])
        self.assertEqual(list(desk), [(2, "dropped", "horn"), (2, "dropped", "pipe")])

    def test_a_lead_that_has_begun_is_not_held(self):
        desk = Desk(duo())
        desk.hold("horn")
        desk.advance(4)
        self.assert_refused(desk, NotHeld, {"name": "horn"}, desk.drop, "horn")
        self.assertEqual(desk.hold("horn"), 8)
        self.assertIs(desk.drop("horn"), None)
        self.assertEqual(desk.sounding, ["horn"])


class ArmTests(DeskTests):
    def test_empty_armed_and_full_tracks(self):
        desk = Desk(taper(), 2)
        self.assertIs(desk.arm("tape"), None)
        self.assertEqual((desk.armed, list(desk)), (["tape"], []))
        before = view_of(desk)
        self.assertIs(desk.arm(name="tape"), None)
        self.assertEqual(view_of(desk), before)
        for _ in range(2):
            self.assert_refused(desk, NotEmpty, {"name": "drums"}, desk.arm, "drums")
        for name in ("blank", "horn", "nobody", ""):
            self.assert_refused(desk, Unknown, {"name": name}, desk.arm, name)
        desk.attempt([("press", "blank"), ("wait", 4), ("press", "blank")])
        self.assertEqual(desk.armed, ["tape"])
        desk.advance(8)
        self.assertEqual((desk.armed, desk.entries[0]), ([], ("blank", 9)))
        self.assert_refused(desk, NotEmpty, {"name": "tape"}, desk.arm, "tape")

    def test_several_tracks(self):
        tracks = [Track(name, clip("x" + name, "2", None)) for name in ("c", "a", "b")]
        desk = Desk(Stage(tracks))
        for name, armed in (("b", ["b"]), ("c", ["c", "b"]), ("a", ["c", "a", "b"])):
            desk.arm(name)
            self.assertEqual(desk.armed, armed)


class MoveTests(DeskTests):
    def test_nothing_happens(self):
        for ticks in (0, 1, 7, 64, FAR, 10 * FAR):
            desk = Desk(rings(), -5)
            self.assertEqual(desk.advance(ticks), [])
            self.assertEqual((desk.now, list(desk)), (ticks - 5, []))
            self.assertEqual(desk.go_to(tick=ticks - 5), [])
            self.assertEqual(desk.go_to(ticks), [])
            self.assertEqual(desk.advance(ticks=3), [])
            same = desk
            desk += ticks
            self.assertIs(desk, same)
            self.assertEqual(desk.now, 2 * ticks + 3)

    def test_only_what_an_advance_adds_is_returned(self):
        desk = Desk(duo())
        desk.press("kick")
        desk.press("kick")
        self.assertEqual(list(desk), [(0, "swallowed", "kick")])
        self.assertEqual(desk.advance(3), [])
        self.assertEqual(desk.advance(0), [])
        self.assertEqual(desk.advance(1), [(4, "begins", "kick")])
        self.assertEqual(desk.advance(0), [])
        desk.hold("horn")
        self.assertEqual(desk.go_to(8), [(8, "begins", "horn")])
        self.assertEqual(desk.go_to(8), [])
        self.assertEqual(len(list(desk)), 3)

    def test_numbers_that_are_refused(self):
        for now in (0, 5, -3, FAR):
            desk = Desk(duo(), now)
            desk.press("kick")
            for ticks in (-1, -2, -64, -FAR):
                self.assert_refused(desk, BadNumber, {"value": ticks}, desk.advance, ticks)
                self.assert_refused(desk, BadNumber, {"value": now + ticks}, desk.go_to, now + ticks)
                self.assert_refused(desk, BadNumber, {"value": ticks}, desk.__iadd__, ticks)
            same = desk
            with self.assertRaises(BadNumber):
                desk += -1
            self.assertIs(desk, same)

    def test_very_long_advances(self):
        desk = Desk(duo(), 3)
        desk.press("kick")
        self.assertEqual(desk.advance(FAR), [(4, "begins", "kick")])
        self.assertEqual((desk.now, desk["drums"]), (FAR + 3, ("kick", 0, (FAR - 1) % 8)))
        desk.hold("horn")
        due = first_after(FAR + 3, 4, 0)
        tick = due if (due - 4) % 8 else due + 4
        self.assertEqual(desk.go_to(2 * FAR), [(tick, "begins", "horn"), (tick + 6, "ends", "horn")])

    def test_large_steps_and_lengths(self):
        stage = Stage([Track("a", Clip("b", grid=Grid(FAR, 5), length=FAR - 1, guards=[0]))],
                      [Lead("horn", grid=Grid(FAR, 5), length=FAR // 10)])
        desk = Desk(stage, -FAR)
        self.assertEqual((desk.press("b"), desk.hold("horn", 2)), (5 - FAR, 5 - FAR))
        self.assertEqual(desk.advance(3 * FAR), [
            (5 - FAR, "begins", "b"), (5, "begins", "horn"), (5 + FAR // 10, "ends", "horn"),
        ])

    def test_items_as_presses_and_stops(self):
        desk = Desk(rings())
        desk["drums"] = "snare"
        self.assertEqual(desk.waiting[0], ("enter", "snare", 3))
        desk["drums"] = "kick"
        self.assertEqual((desk.waiting[0], list(desk)), (("enter", "kick", 4), [(0, "swallowed", "snare")]))
        desk["drums"] = None
        self.assertEqual((desk.waiting[0], list(desk)[1:]), (("stop", "drums", 4), [(0, "swallowed", "kick")]))
        desk["bass"] = "high"
        self.assertEqual(desk.waiting[2], ("enter", "high", 10))
        desk["tape"] = None
        self.assertEqual(desk.waiting[1], ("stop", "tape", 2))
        desk.arm("tape")
        desk["tape"] = "blank"
        self.assertEqual(desk.waiting[1], ("record", "blank", 2))

    def test_items_that_are_refused(self):
        desk = Desk(rings())
        for name, worth, error, values in (
            ("nobody", "kick", Unknown, {"name": "nobody"}), ("kick", "kick", Unknown, {"name": "kick"}),
            ("nobody", None, Unknown, {"name": "nobody"}), ("horn", None, Unknown, {"name": "horn"}),
            ("nobody", "x", Unknown, {"name": "nobody"}), ("drums", "x", Unknown, {"name": "x"}),
            ("drums", "low", Unknown, {"name": "low"}), ("bass", "kick", Unknown, {"name": "kick"}),
            ("drums", "drums", Unknown, {"name": "drums"}), ("drums", "blank", Unknown, {"name": "blank"}),
            ("tape", "blank", NotArmed, {"name": "tape"}), ("tape", "kick", Unknown, {"name": "kick"}),
        ):
            self.assert_refused(desk, error, values, desk.__setitem__, name, worth)


class UndoTests(DeskTests):
    def deeds(self):
        """Calls that are deeds, each of which can follow the ones before it."""
        return [
            lambda desk: desk.press("kick"), lambda desk: desk.press("kick"), lambda desk: desk.hold("horn"),
            lambda desk: desk.hold("horn", 3), lambda desk: desk.arm("tape"), lambda desk: desk.arm("tape"),
            lambda desk: desk.press("blank"), lambda desk: desk.advance(0), lambda desk: desk.advance(5),
            lambda desk: desk.stop("tape"), lambda desk: desk.__setitem__("tape", "blank"), lambda desk: desk.go_to(9),
            lambda desk: desk.__setitem__("drums", None), lambda desk: desk.hold("pipe"),
            lambda desk: desk.drop("pipe"), lambda desk: desk.__iadd__(7), lambda desk: desk.go_to(16), lambda desk: desk.attempt([]),
            lambda desk: desk.attempt([("press", "blank"), ("hold", "horn", 1), ("wait", 30), ("drop", "horn")][:3]),
            lambda desk: desk.advance(FAR), lambda desk: desk.stop("drums"), lambda desk: desk.advance(9),
        ]

    def test_each_deed_is_taken_back(self):
        desk = Desk(taper(), -1)
        views = []
        for deed in self.deeds():
            views.append(view_of(desk))
            deed(desk)
            after = view_of(desk)
            self.assertIs(desk.undo(), None)
            self.assertEqual(view_of(desk), views[-1])
            deed(desk)
            self.assertEqual(view_of(desk), after)
        words = {word for _, word, _ in desk}
        self.assertTrue({"records", "recorded", "begins", "swallowed", "dropped", "ends", "stops"} <= words, words)
        for view in reversed(views):
            self.assertIs(desk.undo(), None)
            self.assertEqual(view_of(desk), view)
        for _ in range(3):
            self.assert_refused(desk, NothingToUndo, {}, desk.undo)

    def test_deeds_that_change_nothing(self):
        desk = Desk(taper())
        desk.arm("tape")
        before = view_of(desk)
        for deed in (lambda: desk.arm("tape"), lambda: desk.advance(0), lambda: desk.go_to(0), lambda: desk.attempt([]),
                     lambda: desk.__iadd__(0)):
            deed()
            self.assertEqual(view_of(desk), before)
            desk.undo()
            # The arming itself is taken back only by the next undo.
            self.assertEqual(view_of(desk), before)
        desk.undo()
        self.assertEqual(desk.armed, [])
        self.assert_refused(desk, NothingToUndo, {}, desk.undo)

    def test_refused_deeds_are_not_taken_back(self):
        desk = Desk(taper())
        desk.press("kick")
        for call in (lambda: desk.press("x"), lambda: desk.advance(-1), lambda: desk.drop("horn"),
                     lambda: desk.attempt([("press", "kick"), ("x",)]), lambda: desk.__setitem__("x", None)):
            self.assertRaises(ValueError, call)
        desk.undo()
        self.assertEqual(view_of(desk), view_of(Desk(taper())))
        self.assert_refused(desk, NothingToUndo, {}, desk.undo)

    def test_deeds_after_an_undo(self):
        desk, other = Desk(taper()), Desk(taper())
        desk.press("kick")
        desk.advance(10)
        desk.hold("horn")
        desk.undo()
        desk.undo()
        desk.stop("drums")
        desk.advance(2)
        other.press("kick")
        other.stop("drums")
        other.advance(2)
        self.assertEqual(view_of(desk), view_of(other))
        for _ in range(3):
            desk.undo()
            other.undo()
            self.assertEqual(view_of(desk), view_of(other))
        self.assert_refused(desk, NothingToUndo, {}, desk.undo)

    def test_a_recording_is_taken_back(self):
        desk = Desk(taper())
        desk.attempt([("arm", "tape"), ("press", "blank"), ("wait", 1), ("press", "blank")])
        before = view_of(desk)
        desk.advance(4)
        self.assertEqual(desk.stage.find_clip("blank").length, 4)
        desk.undo()
        self.assertEqual(view_of(desk), before)
        self.assertTrue(desk.stage.find_track("tape").empty)
        # The recording goes on, and may become a longer one.
        desk.advance(3)
        desk.stop("tape")
        desk.press("blank")
        desk.advance(2)
        self.assertEqual(desk.stage.find_clip("blank").length, 4)

    def test_many_deeds(self):
        desk = Desk(duo())
        for _ in range(3000):
            desk.press("hat")
            desk.press("kick")
            desk.advance(3)
        for _ in range(9000):
            desk.undo()
        self.assertEqual(view_of(desk), view_of(Desk(duo())))


class AttemptTests(DeskTests):
    def test_every_kind_of_tuple(self):
        for kind in (list, tuple):
            desk, other = Desk(taper()), Desk(taper())
            deeds = [("press", "kick"), ("press", "kick"), ("hold", "horn"), ("hold", "pipe", 2), ("drop", "pipe"),
                     ("arm", "tape"), ("press", "blank"), ("wait", 2), ("press", "blank"), ("wait", 7),
                     ("stop", "drums"), ("hold", "pipe", 64), ("wait", 0), ("wait", 40)]
            given = kind(deeds)
            made = desk.attempt(given)
            self.assertEqual(given, kind(deeds))
            other.press("kick")
            other.press("kick")
            other.hold("horn")
            other.hold("pipe", 2)
            other.drop("pipe")
            other.arm("tape")
            other.press("blank")
            other.advance(2)
            other.press("blank")
            other.advance(7)
            other.stop("drums")
            other.hold("pipe", 64)
            other.advance(40)
            self.assertIs(type(made), list)
            self.assertEqual(made, list(other))
            self.assertEqual(view_of(desk), view_of(other))
            desk.undo()
            self.assertEqual(view_of(desk), view_of(Desk(taper())))
            self.assert_refused(desk, NothingToUndo, {}, desk.undo)

    def test_only_its_own_events_are_returned(self):
        desk = Desk(taper())
        desk.press("kick")
        desk.advance(5)
        self.assertEqual(desk.attempt(deeds=[("hold", "pipe"), ("wait", 1), ("hold", "horn")]), [(6, "begins", "pipe")])
        self.assertEqual(desk.attempt([]), [])
        self.assertEqual(desk.attempt(()), [])
        self.assertEqual(list(desk), [(4, "begins", "kick"), (6, "begins", "pipe")])

    def test_other_first_words(self):
        good = [("press", "kick"), ("wait", 5), ("arm", "tape"), ("hold", "horn", 3)]
        for word in ("advance", "go_to", "undo", "attempt", "Press", "press ", "", "x", "kick", "do", "copied"):
            for bad in ((word,), (word, "kick"), (word, 3), (word, "horn", 3), (word, [], [], [])):
                for at in (0, 2, 4):
                    desk = Desk(taper())
                    desk.press("kick")
                    self.assert_refused(desk, BadWord, {"word": word}, desk.attempt, good[:at] + [bad] + good[at:])

    def test_errors_of_the_deeds(self):
        good = [("press", "kick"), ("wait", 5), ("hold", "pipe"), ("wait", 9)]
        for bad, error, values in (
            (("press", "x"), Unknown, {"name": "x"}), (("press", "blank"), NotArmed, {"name": "tape"}),
            (("stop", "kick"), Unknown, {"name": "kick"}), (("hold", "kick"), Unknown, {"name": "kick"}),
            (("hold", "horn", 0), BadNumber, {"value": 0}), (("hold", "horn", 65), BadNumber, {"value": 65}),
            (("hold", "x", 65), Unknown, {"name": "x"}), (("drop", "x"), Unknown, {"name": "x"}),
            (("drop", "horn"), NotHeld, {"name": "horn"}), (("arm", "x"), Unknown, {"name": "x"}),
            (("arm", "drums"), NotEmpty, {"name": "drums"}), (("wait", -1), BadNumber, {"value": -1}),
        ):
            for at in range(5):
                desk = Desk(taper())
                desk.press("kick")
                deeds = good[:at] + [bad] + good[at:]
                self.assert_refused(desk, error, values, desk.attempt, deeds)
                # The first error is raised, also if it is of another kind than the next one.
                self.assert_refused(desk, error, values, desk.attempt, deeds + [("y",)])
                self.assert_refused(desk, BadWord, {"word": "y"}, desk.attempt, [("y",)] + deeds)


if __name__ == "__main__":
    unittest.main()
