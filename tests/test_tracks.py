"""Points 2, 17 and 18: tracks."""

import unittest

from barclips.errors import BadName, BadNumber, EmptyClip, NoClips, TooMany, Twice, Unknown
from barclips.grids import Grid
from barclips.sounds import Clip
from barclips.tracks import Track
from tests.helpers import FAR, GridTests
from tests.scenes import clip, guarded, ring_of
from tests.test_sounds import BAD_NAMES, GOOD_NAMES

KICK = clip("kick", "4", 3, 2, [0, 2])
SNARE = clip("snare", "6+3", 5, guards=[1])
RIM = clip("rim", "1", 1)
RIM2 = clip("rim2", "1", 1)
HAT = clip("hat", "2", 2, 4, [1])
BLANK = clip("blank", "5+2", None, guards=[0, 7])
VOID = clip("void", "4", None)
LOOP = clip("loop", "16", 40, 4, list(range(40)))
LISTS = (
    [KICK], [SNARE], [RIM], [HAT], [LOOP], [KICK, SNARE], [SNARE, KICK], [RIM, RIM2],
    [KICK, SNARE, RIM], [RIM, SNARE, KICK], [HAT, RIM2, LOOP], [RIM, HAT, SNARE],
)


class MakingTests(GridTests):
    def test_attributes(self):
        track = Track("drums", KICK, SNARE, RIM)
        self.assertEqual(
            vars(track), {"name": "drums", "clips": (KICK, SNARE, RIM), "period": 12, "places": (0, 2, 3, 5, 7)}
        )
        for clips in LISTS:
            track = Track("a", *clips)
            self.assertIs(type(track.clips), tuple)
            self.assertIs(type(track.places), tuple)
            self.assertTrue(all(one is other for one, other in zip(track.clips, clips)))
            self.assertEqual(len(track.clips), len(clips))
            self.assertIs(track.empty, False)

    def test_names(self):
        for name in GOOD_NAMES:
            self.assertEqual(Track(name, KICK).name, name)
        for name in BAD_NAMES:
            self.assert_raises_with(BadName, {"name": name}, Track, name, KICK)

    def test_names_may_be_those_of_clips(self):
        self.assertEqual(Track("kick", KICK).name, "kick")

    def test_no_clip(self):
        self.assert_raises_with(NoClips, {"name": "drums"}, Track, "drums")

    def test_three_clips_at_most(self):
        clips = [clip(f"c{at}", "4", 8) for at in range(9)]
        for count in (1, 2, 3):
            self.assertEqual(Track("a", *clips[:count]).clips, tuple(clips[:count]))
        for count in (4, 5, 9):
            self.assert_raises_with(TooMany, {"kind": "clips", "most": 3}, Track, "a", *clips[:count])
        self.assertEqual(Track.CLIPS, 3)
        self.assertEqual(Track("a", KICK).CLIPS, 3)

    def test_an_empty_clip_beside_others(self):
        for clips, name in (
            ([BLANK, KICK], "blank"), ([KICK, BLANK], "blank"), ([KICK, SNARE, VOID], "void"), ([VOID, BLANK], "void"),
            ([KICK, BLANK, SNARE], "blank"), ([KICK, VOID, BLANK], "void"), ([BLANK, BLANK], "blank"),
            ([VOID, KICK, BLANK], "void"),
        ):
            self.assert_raises_with(EmptyClip, {"name": name}, Track, "a", *clips)

    def test_clip_names_that_occur_twice(self):
        twin = clip("kick", "1", 1)
        for clips, name in (
            ([KICK, KICK], "kick"), ([KICK, twin], "kick"), ([KICK, SNARE, twin], "kick"),
            ([SNARE, KICK, twin], "kick"), ([KICK, twin, SNARE], "kick"), ([KICK, twin, KICK], "kick"),
        ):
            self.assert_raises_with(Twice, {"name": name}, Track, "a", *clips)

    def test_the_order_of_the_checks(self):
        self.assert_raises_with(BadName, {"name": "A"}, Track, "A")
        self.assert_raises_with(BadName, {"name": "A"}, Track, "A", KICK, KICK, BLANK, KICK)
        self.assert_raises_with(BadName, {"name": "A"}, Track, "A", KICK, BLANK)
        self.assert_raises_with(BadName, {"name": "A"}, Track, "A", KICK, KICK)
        self.assert_raises_with(TooMany, {"kind": "clips", "most": 3}, Track, "a", KICK, KICK, KICK, KICK)
        self.assert_raises_with(TooMany, {"kind": "clips", "most": 3}, Track, "a", BLANK, KICK, SNARE, RIM)
        self.assert_raises_with(EmptyClip, {"name": "blank"}, Track, "a", KICK, KICK, BLANK)
        self.assert_raises_with(EmptyClip, {"name": "blank"}, Track, "a", BLANK, KICK, KICK)

    def test_iteration(self):
        for clips in LISTS + ([BLANK],):
            track = Track("a", *clips)
            self.assertEqual(list(track), clips)
            self.assertEqual([found.name for found in track], [found.name for found in clips])
            self.assertEqual(list(track), list(track))

    def test_in(self):
        track = Track("drums", KICK, SNARE)
        for name, inside in (("kick", True), ("snare", True), ("rim", False), ("drums", False), ("", False),
                             ("kic", False), ("kick ", False)):
            self.assertIs(name in track, inside)
        self.assertIs("blank" in Track("tape", BLANK), True)
        self.assertIs("kick" in Track("tape", BLANK), False)


class PlaceTests(GridTests):
    def test_periods_and_guarded_places(self):
        for clips in LISTS:
            track = Track("a", *clips)
            self.assertEqual(track.period, len(ring_of(track)))
            self.assertEqual(track.period, sum(found.span for found in clips))
            self.assertEqual(track.places, tuple(guarded(track)))
        self.assertEqual(Track("a", HAT).places, (1, 3, 5, 7))
        self.assertEqual(Track("a", RIM, KICK).places, (1, 3, 4, 6))
        self.assertEqual(Track("a", LOOP).places, tuple(range(160)))

    def test_places_of_hundreds_of_digits(self):
        far = Clip("far", grid=Grid(FAR), length=FAR, rounds=3, guards=[0, FAR - 1])
        track = Track("a", KICK, far, RIM)
        self.assertEqual(track.period, 3 * FAR + 7)
        self.assertEqual(
            track.places, (0, 2, 3, 5, 6, FAR + 5, FAR + 6, 2 * FAR + 5, 2 * FAR + 6, 3 * FAR + 5)
        )
        self.assertEqual(track.start_of("rim"), 3 * FAR + 6)
        self.assertEqual(track.place_of("far", 2, FAR - 1), 3 * FAR + 5)
        self.assertEqual(track.where(3 * FAR + 5), ("far", 2, FAR - 1))
        self.assertEqual(track.where(-1), ("rim", 0, 0))
        self.assertEqual(track.where(-2), ("far", 2, FAR - 1))
        self.assertEqual(track.where(FAR + 6), ("far", 1, 0))

    def test_each_place_there_and_back(self):
        for clips in LISTS:
            track = Track("a", *clips)
            for place, (name, turn, step) in enumerate(ring_of(track)):
                self.assertEqual(track.place_of(name, turn, step), place)
                found = track.where(place)
                self.assertEqual(found, (name, turn, step))
                self.assertIs(type(found), tuple)
                if turn == step == 0:
                    self.assertEqual(track.start_of(name), place)

    def test_where_of_places_outside_of_the_period(self):
        for clips in LISTS:
            track = Track("a", *clips)
            ring = ring_of(track)
            for place in list(range(-3 * len(ring), 3 * len(ring))) + [FAR, -FAR, FAR + 1, FAR**3]:
                self.assertEqual(track.where(place), ring[place % len(ring)])

    def test_clip_of(self):
        track = Track("drums", KICK, SNARE, RIM)
        for found in (KICK, SNARE, RIM):
            self.assertIs(track.clip_of(found.name), found)
        self.assertIs(Track("tape", BLANK).clip_of("blank"), BLANK)

    def test_arguments_have_their_names(self):
        track = Track("drums", KICK, SNARE)
        self.assertEqual(track.start_of(name="snare"), 6)
        self.assertIs(track.clip_of(name="snare"), SNARE)
        self.assertEqual(track.place_of(name="kick", turn=1, step=2), 5)
        self.assertEqual(track.where(place=5), ("kick", 1, 2))

    def test_unknown_clips(self):
        for track in (Track("drums", KICK, SNARE), Track("tape", BLANK)):
            for name in ("drums", "tape", "", "kic", "Kick", "rim"):
                self.assert_raises_with(Unknown, {"name": name}, track.start_of, name)
                self.assert_raises_with(Unknown, {"name": name}, track.clip_of, name)
                self.assert_raises_with(Unknown, {"name": name}, track.place_of, name, 0, 0)
                self.assert_raises_with(Unknown, {"name": name}, track.place_of, name, -1, -1)

    def test_turns_and_steps_that_are_refused(self):
        for clips in LISTS:
            track = Track("a", *clips)
            for found in clips:
                for turn in (-FAR, -1, found.rounds, found.rounds + 1, FAR):
                    for step in (0, found.length - 1, -1, found.length):
                        self.assert_raises_with(BadNumber, {"value": turn}, track.place_of, found.name, turn, step)
                for turn in range(found.rounds):
                    for step in (-FAR, -1, found.length, found.length + 1, FAR):
                        self.assert_raises_with(BadNumber, {"value": step}, track.place_of, found.name, turn, step)


class EmptyTrackTests(GridTests):
    def test_attributes(self):
        for blank in (BLANK, VOID):
            track = Track("tape", blank)
            self.assertEqual(vars(track), {"name": "tape", "clips": (blank,), "period": 0, "places": ()})
            self.assertIs(track.empty, True)
            self.assertEqual(track.start_of(blank.name), 0)

    def test_it_has_no_places(self):
        track = Track("tape", BLANK)
        for turn, step in ((0, 0), (0, 7), (-1, 0), (0, -1), (5, FAR)):
            self.assert_raises_with(EmptyClip, {"name": "blank"}, track.place_of, "blank", turn, step)
        for place in (0, 1, -1, FAR):
            self.assert_raises_with(EmptyClip, {"name": "blank"}, track.where, place)


if __name__ == "__main__":
    unittest.main()
