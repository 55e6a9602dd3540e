"""Points 40 and 41: what happens while a desk moves, by hand."""

import unittest

from barclips.desks import Desk
from barclips.stages import Stage
from barclips.tracks import Track
from tests.helpers import FAR
from tests.scenes import clip, duo, ladder, lead
from tests.test_bars import LADDER_ENTRIES
from tests.test_desks import taper


def quartet():
    """Four tracks and four leads, all of them on a grid of 4; only the first track has a guard."""
    return Stage(
        [Track("a", clip("ac", "4", 8, 1, [0])), Track("b", clip("bc", "4", 8), clip("bd", "4", 4)),
         Track("c", clip("cc", "4", None, 1, [1])), Track("d", clip("dc", "4", None))],
        [lead("lone", "4", 4), lead("ltwo", "4", 8, ["d", "b"]), lead("lthree", "4", 2, ["b", "a", "c"]),
         lead("lfour", "8", 100)],
    )


class OrderTests(unittest.TestCase):
    def test_the_three_things_at_one_tick(self):
        desk = Desk(quartet())
        desk.attempt([("hold", "ltwo"), ("hold", "lone"), ("wait", 4)])
        self.assertEqual(list(desk), [(4, "begins", "lone"), (4, "begins", "ltwo")])
        desk.attempt([("arm", "d"), ("arm", "c"), ("press", "dc"), ("press", "cc"), ("press", "bc"), ("stop", "a"),
                      ("hold", "lone"), ("wait", 4)])
        # Ends of leads, then changes in the order of the tracks, then beginnings of leads.
        self.assertEqual(list(desk)[2:], [
            (8, "ends", "lone"), (8, "begins", "bc"), (8, "records", "cc"), (8, "records", "dc"), (8, "begins", "lone"),
        ])
        desk.attempt([("press", "dc"), ("press", "bd"), ("stop", "c"), ("press", "ac"), ("hold", "lthree"),
                      ("hold", "lfour", 1), ("wait", 4)])
        self.assertEqual(list(desk)[7:], [
            (12, "ends", "lone"), (12, "ends", "ltwo"), (12, "begins", "ac"), (12, "begins", "bd"), (12, "stops", "c"),
            (12, "recorded", "dc"),
        ])
        self.assertEqual(desk.advance(4), [
            (16, "begins", "lthree"), (16, "stops", "b"), (16, "stops", "a"), (16, "begins", "lfour"),
        ])
        self.assertEqual(desk.entries, [None, None, None, ("dc", 12)])

    def test_the_order_of_the_leads_and_not_of_the_holds(self):
        desk = Desk(quartet())
        desk.attempt([("hold", "lfour"), ("hold", "lthree"), ("hold", "lone"), ("hold", "ltwo"), ("wait", 8)])
        self.assertEqual(list(desk), [
            (4, "begins", "lone"), (4, "begins", "ltwo"), (4, "begins", "lthree"), (6, "ends", "lthree"),
            (8, "ends", "lone"), (8, "begins", "lfour"),
        ])

    def test_the_order_of_the_tracks_and_not_of_the_presses(self):
        desk = Desk(duo())
        desk.attempt([("press", "hat"), ("press", "kick"), ("wait", 4)])
        self.assertEqual(list(desk), [(4, "begins", "kick"), (4, "begins", "hat")])

    def test_both_ends_of_an_advance(self):
        desk = Desk(duo())
        desk.press("kick")
        self.assertEqual(desk.advance(3), [])
        self.assertEqual(desk.advance(1), [(4, "begins", "kick")])
        self.assertEqual(desk.press("kick"), 8)
        self.assertEqual(desk.hold("horn"), 8)
        self.assertEqual(desk.advance(3), [])
        # The kick enters anew, and so closes the bar.
        self.assertEqual(desk.advance(1), [(8, "begins", "kick")])


class LeadTests(unittest.TestCase):
    def test_a_lead_sounds_as_long_as_its_length_says(self):
        for length in (1, 2, 3, 4, 5, 9):
            stage = Stage([], [lead("horn", "4", length)])
            desk = Desk(stage)
            desk.hold("horn")
            found = []
            for _ in range(20):
                desk.advance(1)
                found.append("horn" in desk)
            self.assertEqual(found, [4 <= tick < 4 + length for tick in range(1, 21)])
            self.assertEqual(list(desk), [(4, "begins", "horn"), (4 + length, "ends", "horn")])

    def test_a_lead_that_ends_and_begins_anew_at_one_tick(self):
        desk = Desk(Stage([], [lead("horn", "4", 4)]))
        desk.attempt([("hold", "horn"), ("wait", 5), ("hold", "horn"), ("wait", 3)])
        self.assertEqual(list(desk), [(4, "begins", "horn"), (8, "ends", "horn"), (8, "begins", "horn")])
        self.assertEqual(desk.sounding, ["horn"])
        self.assertEqual(desk.advance(10), [(12, "ends", "horn")])

    def test_a_lead_that_begins_while_it_sounds(self):
        desk = Desk(Stage([], [lead("horn", "4", 10)]))
        desk.attempt([("hold", "horn"), ("wait", 4), ("hold", "horn"), ("wait", 4)])
        self.assertEqual(list(desk), [(4, "begins", "horn"), (8, "begins", "horn")])
        # It ends once, ten ticks after its last beginning.
        self.assertEqual(desk.advance(9), [])
        self.assertEqual(desk.sounding, ["horn"])
        self.assertEqual(desk.advance(1), [(18, "ends", "horn")])
        self.assertEqual(desk.sounding, [])
        self.assertEqual(desk.advance(100), [])

    def test_closed_bars_let_a_lead_wait(self):
        desk = Desk(duo())
        desk.attempt([("press", "kick"), ("press", "hat"), ("wait", 4), ("hold", "horn")])
        self.assertEqual(desk.holds[0], (2, None))
        self.assertEqual(desk.advance(3), [])
        self.assertEqual(desk.advance(1), [(8, "begins", "horn")])
        self.assertEqual(desk.holds[0], None)

    def test_a_bar_that_is_closed_by_an_entry_of_the_same_tick(self):
        desk = Desk(duo())
        desk.attempt([("hold", "horn"), ("press", "kick")])
        self.assertEqual(desk.advance(4), [(4, "begins", "kick")])
        self.assertEqual(desk.holds[0], (1, None))
        self.assertEqual(desk.advance(4), [(8, "begins", "horn")])

    def test_a_bar_that_is_opened_by_a_stop_of_the_same_tick(self):
        desk = Desk(duo())
        desk.attempt([("press", "kick"), ("wait", 8), ("stop", "drums"), ("hold", "horn")])
        self.assertEqual(desk.advance(4), [(12, "stops", "drums"), (12, "begins", "horn")])
        desk = Desk(duo())
        desk.attempt([("press", "kick"), ("wait", 8), ("hold", "horn")])
        self.assertEqual(desk.advance(8), [(16, "begins", "horn")])

    def test_an_entry_in_the_middle_of_a_wait(self):
        # The bars 12 and 16 would be closed and open, but a new entry makes them open and closed.
        desk = Desk(duo())
        desk.attempt([("press", "kick"), ("press", "hat"), ("wait", 5), ("press", "kick"), ("hold", "horn"),
                      ("wait", 3)])
        self.assertEqual(list(desk)[2:], [(8, "begins", "kick")])
        self.assertEqual(desk.advance(100), [(12, "begins", "horn"), (18, "ends", "horn")])

    def test_the_last_bar_of_a_patience(self):
        stage = Stage([Track("a", clip("b", "1", 2, 1, [0, 1]))], [lead("horn", "2"), lead("pipe", "3+2")])
        for patience in (1, 2, 5, 63, 64):
            desk = Desk(stage)
            desk.attempt([("press", "b"), ("hold", "horn", patience), ("hold", "pipe", patience)])
            self.assertEqual(desk.holds, [(1, patience), (0, patience - 1)])
            self.assertEqual(desk.advance(2 * patience - 1), [(1, "begins", "b")])
            self.assertEqual(desk.holds, [(1, patience), (0, patience - 1)])
            ends = [(2 * patience, "swallowed", "horn"), (3 * patience - 1, "swallowed", "pipe")]
            self.assertEqual(desk.advance(1), [end for end in ends if end[0] == 2 * patience])
            self.assertIs(desk.holds[0], None)
            self.assertEqual(desk.advance(FAR), [end for end in ends if end[0] > 2 * patience])
            self.assertEqual(desk.holds, [None, None])

    def test_a_hold_whose_last_bar_is_open(self):
        for patience, word in ((1, "swallowed"), (2, "begins"), (3, "begins")):
            desk = Desk(duo())
            desk.attempt([("press", "kick"), ("hold", "horn", patience)])
            desk.advance(100)
            self.assertIn((4 * min(patience, 2), word, "horn"), list(desk))

    def test_a_hold_that_is_made_anew_on_and_beside_a_bar(self):
        stage = Stage([Track("a", clip("b", "1", 1, 1, [0]))], [lead("horn", "4")])
        for now, first in ((3, 1), (4, 2), (5, 2), (7, 2), (8, 3)):
            desk = Desk(stage)
            desk.attempt([("press", "b"), ("hold", "horn", 10), ("wait", now)])
            self.assertEqual(desk.hold("horn", 2), 4 * first)
            self.assertEqual(desk.holds, [(first, first + 1)])
            self.assertEqual(desk.advance(1000), [(4 * first + 4, "swallowed", "horn")])

    def test_a_lead_that_is_never_let_in(self):
        desk = Desk(ladder(), -2)
        for at, tick in LADDER_ENTRIES:
            desk.go_to(tick - 1)
            self.assertEqual(desk.press(f"clip{at}"), tick)
        desk.advance(10)
        desk.hold("horn")
        for ticks in (FAR, FAR * FAR // 7, 1):
            self.assertEqual(desk.advance(ticks), [])
        self.assertIsNot(desk.holds[0], None)
        desk.hold("horn", 64)
        first, last = desk.holds[0]
        self.assertEqual(last - first, 63)
        self.assertEqual(desk.advance(FAR), [(2 * last, "swallowed", "horn")])
        # A lead at the other ticks is let in, and so is this one when a track stops.
        due = desk.hold("pipe")
        self.assertEqual(desk.advance(FAR), [(due, "begins", "pipe"), (due + 4, "ends", "pipe")])
        desk.hold("horn")
        due = desk.stop("track0")
        made = desk.advance(FAR)
        self.assertEqual(made[0], (due, "stops", "track0"))
        self.assertEqual([event[1:] for event in made[1:]], [("begins", "horn"), ("ends", "horn")])
        self.assertTrue(due <= made[1][0] <= due + 2)


class HaltTests(unittest.TestCase):
    def test_stops_of_silent_and_sounding_tracks(self):
        desk = Desk(taper())
        desk.hold("horn")
        self.assertEqual(desk.advance(4), [(4, "begins", "horn")])
        stage = Stage([Track("a", clip("ac", "1", 4)), Track("b", clip("bc", "1", 4)), Track("c", clip("cc", "1", 4))],
                      [lead("horn", "4", 9, ["c", "b", "a"])])
        desk = Desk(stage)
        desk.attempt([("press", "cc"), ("press", "ac"), ("hold", "horn"), ("wait", 4)])
        self.assertEqual(list(desk), [
            (1, "begins", "ac"), (1, "begins", "cc"), (4, "begins", "horn"), (4, "stops", "c"), (4, "stops", "a"),
        ])
        self.assertEqual((desk.entries, desk.sounding), ([None] * 3, ["horn"]))

    def test_waiting_changes_that_stay(self):
        stage = Stage(
            [Track("a", clip("ac", "3", 4)), Track("b", clip("bc", "3", 4)), Track("c", clip("cc", "3", None))],
            [lead("horn", "4", 9, ["a", "b", "c"])],
        )
        desk = Desk(stage)
        desk.attempt([("press", "ac"), ("press", "bc"), ("arm", "c"), ("wait", 3), ("press", "ac"), ("stop", "b"),
                      ("press", "cc"), ("hold", "horn"), ("wait", 1)])
        self.assertEqual(list(desk)[2:], [(4, "begins", "horn"), (4, "stops", "a"), (4, "stops", "b")])
        self.assertEqual(desk.waiting, [("enter", "ac", 6), ("stop", "b", 6), ("record", "cc", 6)])
        self.assertEqual(desk.armed, ["c"])
        self.assertEqual(desk.advance(2), [(6, "begins", "ac"), (6, "records", "cc")])

    def test_a_recording_that_is_thrown_away_by_a_lead(self):
        desk = Desk(taper())
        desk.attempt([("arm", "tape"), ("press", "blank"), ("wait", 2), ("hold", "horn")])
        self.assertEqual(desk.advance(3), [(4, "begins", "horn"), (4, "stops", "tape")])
        self.assertEqual((desk.armed, desk.waiting[0], desk.entries[0]), (["tape"], None, None))
        self.assertTrue(desk.stage.find_track("tape").empty)
        # The next press begins a new recording.
        self.assertEqual(desk.press("blank"), 9)
        self.assertEqual(desk.waiting[0], ("record", "blank", 9))
        desk.advance(4)
        desk.press("blank")
        desk.advance(4)
        self.assertEqual(list(desk)[-2:], [(10, "ends", "horn"), (13, "recorded", "blank")])
        self.assertEqual(desk.stage.find_clip("blank").length, 4)

    def test_a_close_that_is_removed(self):
        desk = Desk(taper())
        desk.attempt([("arm", "tape"), ("press", "blank"), ("wait", 1), ("press", "blank"), ("hold", "horn")])
        self.assertEqual(desk.waiting[0], ("close", "blank", 5))
        self.assertEqual(desk.advance(4), [(4, "begins", "horn"), (4, "stops", "tape"), (4, "swallowed", "blank")])
        self.assertEqual((desk.armed, desk.waiting[0], desk.entries[0]), (["tape"], None, None))
        self.assertEqual(desk.advance(50), [(10, "ends", "horn")])
        self.assertTrue(desk.stage.find_track("tape").empty)

    def test_a_recording_that_is_thrown_away_by_a_stop(self):
        desk = Desk(taper())
        desk.attempt([("arm", "tape"), ("press", "blank"), ("wait", 1), ("stop", "tape")])
        self.assertEqual(desk.advance(4), [(5, "stops", "tape")])
        self.assertEqual((desk.armed, desk.waiting[0]), (["tape"], None))
        self.assertEqual(desk.press("blank"), 9)
        self.assertEqual(desk.waiting[0], ("record", "blank", 9))

    def test_a_recording_that_is_stopped_before_it_has_begun(self):
        desk = Desk(taper())
        desk.attempt([("arm", "tape"), ("press", "blank"), ("stop", "tape")])
        self.assertEqual(list(desk), [(0, "swallowed", "blank")])
        self.assertEqual(desk.advance(10), [])
        self.assertEqual(desk.armed, ["tape"])

    def test_a_lead_that_comes_after_one_with_stops(self):
        # Both are judged before the first one stops the track that closes nothing, or something.
        stage = Stage([Track("a", clip("b", "1", 4, 1, [0])), Track("c", clip("d", "1", 4))],
                      [lead("horn", "4", 2, ["a", "c"]), lead("pipe", "4", 2, ["c", "a"]), lead("bell", "2", 2)])
        desk = Desk(stage)
        desk.attempt([("press", "b"), ("press", "d"), ("hold", "pipe"), ("hold", "horn"), ("wait", 4)])
        self.assertEqual(list(desk)[2:], [
            (4, "begins", "horn"), (4, "stops", "a"), (4, "stops", "c"), (4, "begins", "pipe"),
        ])
        desk = Desk(stage)
        desk.attempt([("wait", 3), ("press", "b"), ("hold", "horn"), ("hold", "bell"), ("wait", 1)])
        # The entry closes the bar for both.
        self.assertEqual(list(desk), [(4, "begins", "b")])
        self.assertEqual(desk.advance(20)[:1], [(6, "begins", "bell")])
        self.assertEqual(desk.holds, [(1, None), None, None])

    def test_a_closed_bar_stays_closed_for_the_leads_after_it(self):
        # The horn is judged open at 4; its stop of the guarded track does not matter for bars of the same tick.
        stage = Stage([Track("a", clip("b", "1", 2, 1, [1]))], [lead("horn", "4", 1, ["a"]), lead("pipe", "4", 1)])
        desk = Desk(stage)
        desk.attempt([("press", "b"), ("hold", "pipe", 1), ("hold", "horn", 1), ("wait", 4)])
        self.assertEqual(list(desk), [(1, "begins", "b"), (4, "swallowed", "horn"), (4, "swallowed", "pipe")])
        desk = Desk(stage)
        desk.attempt([("wait", 1), ("press", "b"), ("hold", "pipe", 1), ("hold", "horn", 1), ("wait", 3)])
        self.assertEqual(list(desk), [
            (2, "begins", "b"), (4, "begins", "horn"), (4, "stops", "a"), (4, "begins", "pipe"),
        ])


class RecordingTests(unittest.TestCase):
    def test_from_record_to_close(self):
        desk = Desk(taper(), -9)
        desk.arm("tape")
        self.assertEqual(desk.press("blank"), -7)
        self.assertEqual(desk.advance(3), [(-7, "records", "blank")])
        self.assertEqual((desk["tape"], desk.entries[0], desk.sounding), (None, None, []))
        self.assertEqual(desk.advance(6), [])
        self.assertEqual(desk.press("blank"), 1)
        self.assertEqual(desk.advance(1), [(1, "recorded", "blank")])
        made = desk.stage.find_clip("blank")
        self.assertEqual((made.length, made.rounds, made.guards), (8, 1, (0, 6)))
        self.assertEqual((desk.entries[0], desk["tape"], desk.armed), (("blank", 1), ("blank", 0, 0), []))
        self.assertEqual(desk.stage.write(), taper().recorded("blank", 8).write())
        desk.advance(11)
        self.assertEqual(desk["tape"], ("blank", 0, 3))

    def test_guards_that_a_short_recording_leaves_out(self):
        for rounds, guards in ((1, (0,)), (2, (0, 6)), (3, (0, 6, 9))):
            desk = Desk(taper())
            desk.attempt([("arm", "tape"), ("press", "blank"), ("wait", 4 * rounds), ("press", "blank"), ("wait", 1)])
            made = desk.stage.find_clip("blank")
            self.assertEqual((made.length, made.guards), (4 * rounds, guards))

    def test_a_recorded_clip_closes_bars(self):
        desk = Desk(Stage([Track("tape", clip("blank", "4", None, 1, [0]))], [lead("horn", "4", 1)]))
        desk.attempt([("arm", "tape"), ("press", "blank"), ("wait", 8), ("press", "blank"), ("hold", "horn")])
        # The guard of the clip closes the bar at which the recording ends, and then every other one.
        self.assertEqual(desk.advance(4), [(12, "recorded", "blank")])
        self.assertEqual(desk.stage.find_clip("blank").length, 8)
        self.assertEqual(desk.advance(8), [(16, "begins", "horn"), (17, "ends", "horn")])
        desk.hold("horn")
        self.assertEqual(desk.advance(8), [(24, "begins", "horn"), (25, "ends", "horn")])

    def test_an_empty_track_closes_no_bar(self):
        desk = Desk(Stage([Track("tape", clip("blank", "4", None, 1, [0]))], [lead("horn", "4", 1)]))
        desk.attempt([("arm", "tape"), ("press", "blank"), ("hold", "horn"), ("wait", 4)])
        self.assertEqual(list(desk), [(4, "records", "blank"), (4, "begins", "horn")])

    def test_two_recordings_at_once(self):
        stage = Stage([Track("a", clip("b", "2", None)), Track("c", clip("d", "3", None))])
        desk = Desk(stage)
        desk.attempt([("arm", "a"), ("arm", "c"), ("press", "d"), ("press", "b"), ("wait", 7), ("press", "b"),
                      ("press", "d"), ("wait", 5)])
        self.assertEqual(list(desk), [(2, "records", "b"), (3, "records", "d"), (8, "recorded", "b"),
                                      (9, "recorded", "d")])
        self.assertEqual([each.length for track in desk.stage.tracks for each in track], [6, 6])

    def test_very_long_recordings(self):
        desk = Desk(taper())
        desk.attempt([("arm", "tape"), ("press", "blank"), ("wait", FAR), ("press", "blank"), ("wait", 4)])
        # It begins at 1 and ends at the first tick after FAR that leaves the remainder 1.
        self.assertEqual(desk.stage.find_clip("blank").length, FAR)
        self.assertEqual((desk.entries[0], desk["tape"]), (("blank", FAR + 1), ("blank", 0, 3)))


if __name__ == "__main__":
    unittest.main()
