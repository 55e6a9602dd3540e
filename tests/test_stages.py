"""Points 2 and 19: stages."""

import unittest

from barclips.errors import BadNumber, NotEmpty, TooMany, Twice, Unknown
from barclips.grids import Grid
from barclips.sounds import Clip, Lead
from barclips.stages import Stage
from barclips.tracks import Track
from tests.helpers import FAR, GridTests, state
from tests.scenes import clip, duo, lead, rings, stages


def tracks(count, clips=1):
    """That many tracks, each with so many clips."""
    return [Track(f"t{at}", *[clip(f"c{at}x{by}", "4", 8) for by in range(clips)]) for at in range(count)]


def leads(count):
    return [lead(f"l{at}", "4") for at in range(count)]


def tape(guards=(), length=None, rounds=1, name="blank"):
    return Track("tape", Clip(name, grid=Grid(5, 2), length=length, rounds=rounds, guards=guards))


class MakingTests(GridTests):
    def test_attributes(self):
        two, horn = tracks(2), leads(1)
        stage = Stage(two, horn)
        self.assertEqual(vars(stage), {"tracks": tuple(two), "leads": tuple(horn)})
        self.assertIs(stage.tracks[1], two[1])
        self.assertEqual(vars(Stage(two)), {"tracks": tuple(two), "leads": ()})
        self.assertEqual(vars(Stage([])), {"tracks": (), "leads": ()})
        self.assertEqual(Stage((), ()).tracks, ())
        self.assertEqual(Stage(leads=tuple(horn), tracks=tuple(two)).leads, tuple(horn))

    def test_class_values(self):
        self.assertEqual((Stage.TRACKS, Stage.LEADS, Stage.CLIPS, Stage.GUARDS), (6, 4, 8, 6))
        stage = Stage([])
        self.assertEqual((stage.TRACKS, stage.LEADS, stage.CLIPS, stage.GUARDS), (6, 4, 8, 6))
        self.assertEqual((Track.CLIPS, Clip.ROUNDS, Lead.PATIENCE), (3, 4, 64))

    def test_lists_are_copied(self):
        two, horn = tracks(2), leads(1)
        stage = Stage(two, horn)
        two.append(tracks(3)[2])
        horn.clear()
        self.assertEqual((len(stage.tracks), len(stage.leads)), (2, 1))
        self.assertIs(type(stage.tracks), tuple)
        self.assertIs(type(stage.leads), tuple)


class CheckTests(GridTests):
    def assert_refused(self, error, values, given_tracks, given_leads=()):
        self.assert_raises_with(error, values, Stage, given_tracks, given_leads)
        self.assert_raises_with(error, values, Stage, tuple(given_tracks), tuple(given_leads))
        if not given_leads:
            self.assert_raises_with(error, values, Stage, given_tracks)

    def test_tracks(self):
        for count in range(7):
            self.assertEqual(len(Stage(tracks(count)).tracks), count)
        for count in (7, 8, 30):
            self.assert_refused(TooMany, {"kind": "tracks", "most": 6}, tracks(count))

    def test_leads(self):
        for count in range(5):
            self.assertEqual(len(Stage([], leads(count)).leads), count)
        for count in (5, 6, 30):
            self.assert_refused(TooMany, {"kind": "leads", "most": 4}, [], leads(count))

    def test_clips(self):
        for given in (tracks(2, 3) + [Track("x", clip("a", "4", 8), clip("b", "4", 8))], tracks(4, 2), tracks(2, 3)):
            self.assertLessEqual(len(Stage(given).tracks), 4)
        many = {"kind": "clips", "most": 8}
        self.assert_refused(TooMany, many, tracks(3, 3))
        self.assert_refused(TooMany, many, tracks(5, 2))
        self.assert_refused(TooMany, many, tracks(2, 3) + [
            Track("x", clip("a", "4", 8), clip("b", "4", 8)), Track("y", clip("c", "4", None)),
        ])

    def test_names_that_occur_twice(self):
        one, other = Track("a", clip("b", "4", 8)), Track("c", clip("d", "4", 8), clip("e", "4", 8))
        for given, horns, name in (
            ([one, one], [], "a"),
            ([one, Track("a", clip("z", "4", 8))], [], "a"),
            ([one, Track("b", clip("z", "4", 8))], [], "b"),
            ([one, Track("z", clip("b", "4", 8))], [], "b"),
            ([one, Track("z", clip("a", "4", 8))], [], "a"),
            ([Track("a", clip("a", "4", 8))], [], "a"),
            ([Track("a", clip("b", "4", 8), clip("a", "4", 8))], [], "a"),
            ([one, other], [lead("a", "4")], "a"),
            ([one, other], [lead("e", "4")], "e"),
            ([one, other], [lead("z", "4"), lead("y", "4"), lead("z", "4")], "z"),
            ([], [lead("z", "4"), lead("z", "4")], "z"),
            # The first in the order of the point, not that of the earlier ones.
            ([one, other, Track("y", clip("d", "4", 8)), Track("z", clip("a", "4", 8))], [], "d"),
            ([one, other, Track("e", clip("a", "4", 8))], [], "e"),
            ([one, Track("y", clip("z", "4", 8), clip("b", "4", 8)), Track("a", clip("x", "4", 8))], [], "b"),
            ([one, Track("z", clip("z", "4", 8))], [lead("a", "4")], "z"),
            ([one, other], [lead("e", "4"), lead("a", "4")], "e"),
            ([tape(), Track("b", clip("blank", "4", 8))], [], "blank"),
        ):
            self.assert_refused(Twice, {"name": name}, given, horns)

    def test_stops_that_are_no_tracks(self):
        two = [Track("a", clip("b", "4", 8)), Track("c", clip("d", "4", 8))]
        self.assertEqual(Stage(two, [lead("z", "4", 1, ["c", "a"])]).leads[0].stops, ("c", "a"))
        for horns, name in (
            ([["x"]], "x"), ([["b"]], "b"), ([["l0"]], "l0"), ([["a", ""]], ""), ([["a", "x", "y"]], "x"),
            ([["a"], ["c", "y"], ["x"]], "y"), ([[], [], [], ["A"]], "A"),
        ):
            given = [lead(f"l{at}", "4", 1, stops) for at, stops in enumerate(horns)]
            self.assert_refused(Unknown, {"name": name}, two, given)
        self.assert_refused(Unknown, {"name": "a"}, [], [lead("z", "4", 1, ["a"])])

    def test_guards(self):
        for given in (
            [tape(range(6))], [tape(range(6), 40)], [tape(range(3), 40, 2)], [tape([0, 1], 40, 3)], [tape([3], 40, 4)],
            [tape([0, 1], 40, 2), Track("x", clip("y", "4", 8, 2, [5]))],
            [tape([0, 1, 2]), Track("x", clip("y", "4", 8, 2, [5]), clip("z", "4", 8, 1, [5]))],
        ):
            self.assertEqual(Stage(given).tracks, tuple(given))
        for given in (
            [tape(range(7))], [tape(range(7), 40)], [tape(range(40), 40)], [tape(range(40))], [tape(range(4), 40, 2)],
            [tape([0, 1, 2], 40, 3)], [tape([0, 1], 40, 4)],
            [tape([0, 1], 40, 3), Track("x", clip("y", "4", 8, 1, [5]))],
            [tape([0, 1, 2, 3]), Track("x", clip("y", "4", 8, 2, [5]), clip("z", "4", 8, 1, [5]))],
            [tape(range(6)), Track("x", clip("y", "4", 8, 1, [5]))],
        ):
            self.assert_refused(TooMany, {"kind": "guards", "most": 6}, given)

    def test_two_faults_at_once(self):
        crowd, horns = tracks(7, 2), leads(5)
        self.assert_refused(TooMany, {"kind": "tracks", "most": 6}, crowd, horns)
        self.assert_refused(TooMany, {"kind": "tracks", "most": 6}, crowd)
        self.assert_refused(TooMany, {"kind": "tracks", "most": 6}, tracks(6) + [tracks(1)[0]])
        self.assert_refused(TooMany, {"kind": "tracks", "most": 6}, tracks(7), [lead("x", "4", 1, ["y"])])
        self.assert_refused(TooMany, {"kind": "tracks", "most": 6}, tracks(6) + [tape(range(7))])
        self.assert_refused(TooMany, {"kind": "leads", "most": 4}, tracks(5, 2), horns)
        self.assert_refused(TooMany, {"kind": "leads", "most": 4}, [], [horns[0]] * 5)
        self.assert_refused(TooMany, {"kind": "leads", "most": 4}, [], [lead("x", "4", 1, ["y"])] + horns)
        self.assert_refused(TooMany, {"kind": "leads", "most": 4}, [tape(range(7))], horns)
        self.assert_refused(TooMany, {"kind": "clips", "most": 8}, [tracks(1, 3)[0]] * 3)
        self.assert_refused(TooMany, {"kind": "clips", "most": 8}, tracks(3, 3), [lead("x", "4", 1, ["y"])])
        self.assert_refused(TooMany, {"kind": "clips", "most": 8}, tracks(4, 2) + [tape(range(7))])
        self.assert_refused(Twice, {"name": "l0"}, [], [horns[0], lead("l0", "4", 1, ["y"])])
        self.assert_refused(Twice, {"name": "tape"}, [tape(range(7)), tape()])
        self.assert_refused(Unknown, {"name": "y"}, [tape(range(7))], [lead("x", "4", 1, ["y"])])


class FindTests(GridTests):
    def test_each_part_is_found(self):
        for stage in stages():
            for track in stage.tracks:
                self.assertIs(stage.find_track(track.name), track)
                self.assertIs(stage.find_track(name=track.name), track)
                for found in track.clips:
                    self.assertIs(stage.find_clip(found.name), found)
                    self.assertIs(stage.find_clip(name=found.name), found)
                    self.assertIs(stage.track_with(found.name), track)
                    self.assertIs(stage.track_with(name=found.name), track)
            for found in stage.leads:
                self.assertIs(stage.find_lead(found.name), found)
                self.assertIs(stage.find_lead(name=found.name), found)

    def test_other_names_are_unknown(self):
        stage = rings()
        names = {
            stage.find_track: ["kick", "horn", "blank"], stage.find_lead: ["drums", "kick"],
            stage.find_clip: ["drums", "horn"], stage.track_with: ["drums", "horn", "tape"],
        }
        for call, others in names.items():
            for name in others + ["", "x", "Drums", "drums ", "kic"]:
                self.assert_raises_with(Unknown, {"name": name}, call, name)
        for call in (Stage([]).find_track, Stage([]).find_lead, Stage([]).find_clip, Stage([]).track_with):
            self.assert_raises_with(Unknown, {"name": "a"}, call, "a")


class RecordedTests(GridTests):
    def test_the_clip_has_the_length(self):
        for length in (1, 7, 8, 40, FAR):
            stage = rings()
            before = state(stage)
            new = stage.recorded("blank", length)
            self.assertIsInstance(new, Stage)
            self.assertIsNot(new, stage)
            self.assertEqual(state(stage), before)
            guards = (7,) if length > 7 else ()
            self.assertEqual(
                new.find_clip("blank").words(),
                ["blank", "5+2", str(length)] + ["guards"] * len(guards) + [str(guard) for guard in guards],
            )
            self.assertEqual((new.find_track("tape").period, new.find_track("tape").places), (length, guards))
            self.assertIs(new.find_track("tape").empty, False)
            self.assertIs(stage.find_track("tape").empty, True)

    def test_the_rest_is_the_same(self):
        stage = rings()
        new = stage.recorded(name="blank", length=9)
        self.assertEqual([track.name for track in new.tracks], ["drums", "tape", "bass", "keys"])
        for name in ("drums", "bass", "keys"):
            self.assertEqual(state(new.find_track(name)), state(stage.find_track(name)))
        self.assertEqual(state(new.leads), state(stage.leads))

    def test_guards_that_are_left_out(self):
        for guards, length, left in (
            ([0, 3, 5], 1, (0,)), ([0, 3, 5], 3, (0,)), ([0, 3, 5], 4, (0, 3)), ([0, 3, 5], 5, (0, 3)),
            ([0, 3, 5], 6, (0, 3, 5)), ([1], 1, ()), ([FAR], FAR, ()), ([0, FAR - 1], FAR, (0, FAR - 1)), ([], 4, ()),
        ):
            self.assertEqual(Stage([tape(guards)]).recorded("blank", length).find_clip("blank").guards, left)

    def test_two_empty_clips(self):
        stage = Stage([tape([2]), Track("other", clip("void", "3", None, 1, [1]))])
        new = stage.recorded("void", 6)
        self.assertEqual((new.find_clip("blank").length, new.find_clip("void").length), (None, 6))
        both = new.recorded("blank", 2)
        self.assertEqual((both.find_clip("blank").guards, both.find_clip("void").guards), ((), (1,)))
        self.assert_raises_with(NotEmpty, {"name": "void"}, new.recorded, "void", 6)

    def test_errors_and_their_order(self):
        stage = rings()
        for length in (8, 0, -3):
            for name in ("tape", "horn", "", "x"):
                self.assert_raises_with(Unknown, {"name": name}, stage.recorded, name, length)
            for name in ("kick", "snare", "pad"):
                self.assert_raises_with(NotEmpty, {"name": name}, stage.recorded, name, length)
        for length in (0, -1, -FAR):
            self.assert_raises_with(BadNumber, {"value": length}, stage.recorded, "blank", length)


class WithoutTests(GridTests):
    def test_tracks_and_stops_are_left_out(self):
        stage = rings()
        before = state(stage)
        for names, left, stops in (
            (["drums"], ["tape", "bass", "keys"], ("bass",)),
            (["bass"], ["drums", "tape", "keys"], ("drums",)),
            (["keys", "tape"], ["drums", "bass"], ("bass", "drums")),
            (["bass", "drums"], ["tape", "keys"], ()),
            (["drums", "bass", "tape", "keys"], [], ()),
            (["drums", "drums", "bass", "drums"], ["tape", "keys"], ()),
            (["keys", "keys"], ["drums", "tape", "bass"], ("bass", "drums")),
            ([], ["drums", "tape", "bass", "keys"], ("bass", "drums")),
        ):
            new = stage.without(*names)
            self.assertIsInstance(new, Stage)
            self.assertIsNot(new, stage)
            self.assertEqual([track.name for track in new.tracks], left)
            for track in new.tracks:
                self.assertEqual(state(track), state(stage.find_track(track.name)))
            self.assertEqual([found.name for found in new.leads], ["horn", "pipe", "bell", "drone"])
            self.assertEqual([found.stops for found in new.leads], [(), (), stops, ()])
            self.assertEqual(state(new.leads[2].grid), state(stage.leads[2].grid))
            self.assertEqual(new.leads[2].length, 20)
            self.assertEqual(state(stage), before)

    def test_the_stops_of_every_lead(self):
        stage = Stage(duo().tracks, [lead("a", "4", 1, ["metal", "drums"]), lead("b", "4", 1, ["drums"])])
        self.assertEqual([found.stops for found in stage.without("drums").leads], [("metal",), ()])
        self.assertEqual([found.stops for found in stage.without("metal").leads], [("drums",), ("drums",)])

    def test_unknown_names(self):
        stage = rings()
        for names, wrong in (
            (["x"], "x"), (["drums", "x", "y"], "x"), (["y", "drums", "x"], "y"), (["kick"], "kick"), ([""], ""),
            (["horn"], "horn"), (["drums", "drums", "bell"], "bell"), (["Drums"], "Drums"),
        ):
            self.assert_raises_with(Unknown, {"name": wrong}, stage.without, *names)
        self.assert_raises_with(Unknown, {"name": "a"}, Stage([]).without, "a")
        self.assertEqual(Stage([]).without().tracks, ())


if __name__ == "__main__":
    unittest.main()
