"""Points 2, 20, 21 and 34: clips that sound together."""

import random
import unittest
from itertools import combinations
from math import lcm

from barclips.errors import BadNumber, BadSetting, EmptyClip, OffGrid, Twice, Unknown
from barclips.grids import Grid
from barclips.settings import check_setting, playing
from barclips.sounds import Clip
from barclips.stages import Stage
from barclips.together import Meeting, apart_pair, next_meeting, together
from barclips.tracks import Track
from tests.helpers import FAR, GridTests, state
from tests.scenes import (
    bare, clip, coprime, drawn, duo, place_at, playing_at, quiet, repeat_of, rings, ring_of, settings_of, stages, turns,
    uneven,
)


def meets(stage, setting, tick, wishes):
    """Tell whether the setting meets all wishes at the tick."""
    found = {(played[0], played[2]) for played in playing_at(stage, setting, tick) if played is not None}
    return found >= set(wishes)


def wished_track(stage, wish):
    return next(track for track in stage.tracks if wish[0] in [each.name for each in track.clips])


def meeting_ticks(stage, wish, span):
    """The ticks below the span at which some setting meets the wish, by trying every entry."""
    track = wished_track(stage, wish)
    ring = ring_of(track)
    found = set()
    for entered in track.clips:
        stretch = lcm(len(ring), entered.grid.step)
        for at in range(entered.grid.offset, entered.grid.offset + stretch, entered.grid.step):
            begin = place_at(track, (entered.name, at), 0)
            found.update(tick for tick in range(span) if ring[(begin + tick) % len(ring)][::2] == wish)
    return found


def all_met(stage, wishes):
    """The ticks up to a common repetition at which some setting meets all wishes."""
    span = repeat_of(stage)
    found = set(range(span))
    for wish in wishes:
        found &= meeting_ticks(stage, wish, span)
    return found


def drawn_wishes(numbers, stage):
    """Wishes for some of the tracks that are not empty, in any order."""
    tracks = [track for track in stage.tracks if ring_of(track)]
    tracks = numbers.sample(tracks, numbers.randrange(len(tracks) + 1))
    wishes = []
    for track in tracks:
        chosen = numbers.choice(track.clips)
        wishes.append((chosen.name, numbers.randrange(chosen.length)))
    return wishes


def cases(amount, seed):
    numbers = random.Random(seed)
    for stage in [duo(), rings(), coprime(), turns(), uneven(), quiet(), bare()] + drawn(amount, seed):
        for _ in range(6):
            yield stage, drawn_wishes(numbers, stage)


class CheckTests(GridTests):
    """The wishes are checked one by one, by each of the three functions."""

    silent = [None] * 4
    calls = (
        together,
        apart_pair,
        lambda stage, *wishes: next_meeting(stage, [None] * 4, 5, *wishes),
    )
    faults = (
        (("x", 0), Unknown, {"name": "x"}), (("drums", 0), Unknown, {"name": "drums"}),
        (("horn", 0), Unknown, {"name": "horn"}), (("", -1), Unknown, {"name": ""}),
        (("blank", 0), EmptyClip, {"name": "blank"}), (("blank", -1), EmptyClip, {"name": "blank"}),
        (("blank", FAR), EmptyClip, {"name": "blank"}),
        (("kick", -1), BadNumber, {"value": -1}), (("kick", 3), BadNumber, {"value": 3}),
        (("rim", 1), BadNumber, {"value": 1}), (("pad", FAR), BadNumber, {"value": FAR}),
        (("pad", 6), BadNumber, {"value": 6}),
    )

    def test_one_faulty_wish(self):
        for wish, error, values in self.faults:
            for call in self.calls:
                self.assert_raises_with(error, values, call, rings(), wish)
                self.assert_raises_with(error, values, call, rings(), ("low", 3), wish)
                self.assert_raises_with(error, values, call, rings(), wish, ("low", 3))

    def test_two_faulty_wishes(self):
        for wish, error, values in self.faults:
            for other, _, _ in self.faults:
                for call in self.calls:
                    self.assert_raises_with(error, values, call, rings(), wish, other)

    def test_two_wishes_of_one_track(self):
        for wishes, name in (
            ((("kick", 0), ("kick", 0)), "drums"), ((("kick", 0), ("rim", 0)), "drums"),
            ((("rim", 0), ("low", 1), ("high", 1)), "bass"), ((("low", 1), ("rim", 0), ("pad", 1), ("pad", 5)), "keys"),
        ):
            for call in self.calls:
                self.assert_raises_with(Twice, {"name": name}, call, rings(), *wishes)
                self.assert_raises_with(Twice, {"name": name}, call, rings(), *wishes, ("x", 0))
        for call in self.calls:
            # The step comes before the earlier wish, an earlier fault before a later one.
            self.assert_raises_with(BadNumber, {"value": 9}, call, rings(), ("kick", 0), ("kick", 9))
            self.assert_raises_with(Twice, {"name": "drums"}, call, rings(), ("kick", 0), ("rim", 0), ("kick", 9))
            self.assert_raises_with(Unknown, {"name": "x"}, call, rings(), ("kick", 0), ("x", 0), ("kick", 1))

    def test_the_setting_comes_before_the_wishes(self):
        for setting, error, values in (
            ([None], BadSetting, {"size": 1}), ([("x", 0), None, None, None], Unknown, {"name": "x"}),
            ([None, ("blank", 2), None, None], EmptyClip, {"name": "blank"}),
            ([None, None, None, ("pad", 4)], OffGrid, {"tick": 4}),
        ):
            for wish in [wish for wish, _, _ in self.faults] + [("low", 0)]:
                self.assert_raises_with(error, values, next_meeting, rings(), setting, 0, wish)
                self.assert_raises_with(error, values, next_meeting, rings(), tuple(setting), 0, wish, wish)
            self.assert_raises_with(error, values, next_meeting, rings(), setting, 0)


class TogetherTests(GridTests):
    def assert_meeting(self, stage, made, wishes):
        self.assertIs(type(made), Meeting)
        self.assertEqual(sorted(vars(made)), ["setting", "tick"])
        self.assertIs(type(made.tick), int)
        self.assertIs(type(made.setting), tuple)
        check_setting(stage, made.setting)
        self.assertTrue(meets(stage, made.setting, made.tick, wishes))

    def test_against_every_entry(self):
        seen = set()
        for stage, wishes in cases(60, 31):
            made = together(stage, *wishes)
            if all_met(stage, wishes):
                self.assert_meeting(stage, made, wishes)
            else:
                self.assertIs(made, None)
            seen.add((len(wishes), made is None))
        self.assertTrue({(0, False), (1, False), (2, False), (2, True), (3, False), (3, True)} <= seen, seen)

    def test_no_wish(self):
        for stage in stages() + drawn(10, 32):
            self.assert_meeting(stage, together(stage), [])

    def test_one_wish_is_always_met(self):
        for stage in stages() + drawn(20, 33):
            for track in stage.tracks:
                for each in track.clips:
                    for step in range(each.length or 0):
                        self.assert_meeting(stage, together(stage, (each.name, step)), [(each.name, step)])

    def test_wishes_that_meet_in_pairs_alone(self):
        # Of 3 ticks the wishes are met at 0 and 1, at 0 and 2, and at 1 and 2.
        stage = Stage([
            Track("a", clip("b", "3", 2), clip("c", "3", 1)), Track("d", clip("e", "3", 2), clip("f", "3+1", 1)),
            Track("g", clip("h", "3+1", 2), clip("i", "3+1", 1)),
        ], [])
        wishes = [("b", 0), ("e", 0), ("h", 0)]
        self.assertEqual([sorted(meeting_ticks(stage, wish, 3)) for wish in wishes], [[0, 1], [0, 2], [1, 2]])
        for pair in combinations(wishes, 2):
            self.assert_meeting(stage, together(stage, *pair), list(pair))
        self.assertIs(together(stage, *wishes), None)
        self.assertIs(apart_pair(stage, *wishes), None)

    def test_rounds_let_wishes_meet(self):
        # Of 6 ticks the wishes are met at 0 and 3, at 0, 2 and 4, and at 3 alone.
        stage = Stage([Track("a", clip("b", "6", 3, 2)), Track("c", clip("d", "6", 2, 3)),
                       Track("e", clip("f", "6+3", 6))], [])
        for wishes, met in (([("b", 0), ("d", 0)], True), ([("b", 0), ("f", 0)], True), ([("d", 0), ("f", 0)], False),
                            ([("b", 0), ("d", 1), ("f", 0)], True), ([("b", 1), ("d", 1), ("f", 0)], False)):
            made = together(stage, *wishes)
            self.assertIs(made is not None, met)
            if met:
                self.assert_meeting(stage, made, wishes)

    def test_the_fact_of_single_clips_of_one_round(self):
        numbers = random.Random(35)
        seen = set()
        for _ in range(300):
            tracks = [Track(f"t{at}", Clip(f"c{at}", grid=Grid(numbers.choice((2, 3, 4, 6, 8)), numbers.randrange(8)),
                                           length=numbers.choice((2, 3, 4, 6, 12)))) for at in range(3)]
            stage = Stage(tracks, [])
            wishes = [(f"c{at}", numbers.randrange(tracks[at].period)) for at in range(3)]
            pairs = [together(stage, *pair) is not None for pair in combinations(wishes, 2)]
            self.assertIs(together(stage, *wishes) is not None, all(pairs))
            seen.add(tuple(pairs))
        self.assertGreater(len(seen), 4)

    def test_large_numbers(self):
        stage = Stage([Track("a", Clip("b", grid=Grid(FAR, 7), length=2 * FAR, rounds=2)),
                       Track("c", Clip("d", grid=Grid(FAR + 1, 3), length=FAR + 1))], [])
        for first, second in ((0, 0), (2 * FAR - 1, FAR), (FAR, 5)):
            made = together(stage, ("b", first), ("d", second))
            check_setting(stage, made.setting)
            steps = [(name, step) for name, _, step in playing(stage, made.setting, made.tick)]
            self.assertEqual(steps, [("b", first), ("d", second)])
        stage = Stage([Track("a", Clip("b", grid=Grid(FAR, 7), length=FAR)),
                       Track("c", Clip("d", grid=Grid(FAR, 3), length=FAR))], [])
        self.assertIs(together(stage, ("b", 0), ("d", 0)), None)
        self.assertIs(together(stage, ("b", FAR - 5), ("d", 0)), None)
        self.assertIsNot(together(stage, ("b", 0), ("d", 4)), None)

    def test_six_tracks_with_eight_clips_and_many_rounds(self):
        tracks = [Track(f"t{at}", clip(f"c{at}", str(at + 3), at + 2, 4), *[clip(f"d{at}", "5", 3, 4)] * (at < 2))
                  for at in range(6)]
        wishes = [(f"c{at}", at + 1) for at in range(6)]
        self.assert_meeting(Stage(tracks, []), together(Stage(tracks, []), *wishes), wishes)

    def test_stages_are_unchanged(self):
        for stage in stages():
            before = state(stage)
            together(stage)
            apart_pair(stage)
            self.assertEqual(state(stage), before)


class ApartTests(GridTests):
    def expected(self, stage, wishes):
        for first, second in combinations(range(len(wishes)), 2):
            if not all_met(stage, [wishes[first], wishes[second]]):
                return (first, second)
        return None

    def test_against_every_entry(self):
        seen = set()
        for stage, wishes in cases(60, 41):
            made = apart_pair(stage, *wishes)
            self.assertEqual(made, self.expected(stage, wishes))
            self.assertTrue(made is None or type(made) is tuple)
            seen.add(made)
        self.assertTrue({None, (0, 1), (0, 2)} <= seen, seen)

    def test_few_wishes(self):
        for stage in (duo(), rings(), bare()):
            self.assertIs(apart_pair(stage), None)
        self.assertIs(apart_pair(duo(), ("hat", 5)), None)

    def test_several_pairs(self):
        tracks = [Track(f"t{at}", clip(f"c{at}", "4" if offset == 0 else f"4+{offset}", 4))
                  for at, offset in enumerate((0, 0, 1, 1, 2))]
        stage = Stage(tracks, [])
        wish = [(f"c{at}", 0) for at in range(5)]
        for order, expected in (
            ((0, 1, 2, 3, 4), (0, 2)), ((0, 1), None), ((2, 3, 0), (0, 2)), ((4, 2, 3), (0, 1)), ((1, 0, 4, 2), (0, 2)),
            ((2, 3), None), ((3, 2, 4, 0), (0, 2)), ((0, 2, 3, 1), (0, 1)),
        ):
            self.assertEqual(apart_pair(stage, *[wish[at] for at in order]), expected)
        # Steps make up for the offsets, except for those of one wish.
        self.assertIs(apart_pair(stage, ("c0", 2), ("c1", 2), ("c2", 1), ("c3", 1), ("c4", 0)), None)
        self.assertEqual(apart_pair(stage, ("c0", 2), ("c1", 2), ("c2", 1), ("c3", 0), ("c4", 0)), (0, 3))
        self.assertEqual(apart_pair(stage, ("c0", 2), ("c1", 2), ("c2", 1), ("c4", 3), ("c3", 1)), (0, 3))


class NextMeetingTests(GridTests):
    def test_against_every_tick(self):
        seen = set()
        numbers = random.Random(51)
        for stage, wishes in cases(60, 52):
            span = repeat_of(stage)
            for setting in settings_of(stage, 5, numbers.randrange(99)):
                since = numbers.randrange(-30, 30)
                ticks = [tick for tick in range(since, since + span) if meets(stage, setting, tick, wishes)]
                expected = min(ticks, default=None)
                for given in (setting, tuple(setting)):
                    self.assertEqual(next_meeting(stage, given, since, *wishes), expected)
                if expected is not None:
                    for more in (FAR * span, -FAR * span):
                        self.assertEqual(next_meeting(stage, setting, since + more, *wishes), expected + more)
                    later = next_meeting(stage, setting, expected + 1, *wishes)
                    self.assertEqual(next_meeting(stage, setting, expected, *wishes), expected)
                    self.assertTrue(expected < later <= expected + span)
                    self.assertTrue(meets(stage, setting, later, wishes))
                seen.add((len(wishes), expected is None))
        self.assertTrue({(1, False), (1, True), (2, False), (2, True), (3, True), (3, False)} <= seen, seen)

    def test_no_wish(self):
        for stage in stages():
            for setting in settings_of(stage, 3):
                for since in (0, -1, 7, FAR, -FAR):
                    self.assertEqual(next_meeting(stage, setting, since), since)

    def test_by_hand(self):
        setting = [("kick", 4), ("hat", 0)]
        for since, expected in ((0, 4), (4, 4), (5, 20), (-12, -12), (-11, 4), (16 * FAR, 16 * FAR + 4)):
            self.assertEqual(next_meeting(duo(), setting, since, ("kick", 0), ("hat", 4)), expected)
            self.assertEqual(next_meeting(duo(), setting, since, ("hat", 4), ("kick", 0)), expected)
        self.assertIs(next_meeting(duo(), setting, 0, ("kick", 0), ("hat", 0)), None)
        self.assertEqual(next_meeting(stage=duo(), setting=setting, since=5), 5)

    def test_any_turn(self):
        setting = [("riff", 8)]
        self.assertEqual([next_meeting(turns(), setting, since, ("riff", 1)) for since in (8, 9, 10, 13, 14, 17, 18)],
                         [9, 9, 13, 13, 17, 17, 21])

    def test_silent_tracks(self):
        for since in (0, FAR):
            self.assertIs(next_meeting(duo(), [None, ("hat", 0)], since, ("kick", 0)), None)
            self.assertIs(next_meeting(duo(), [None, ("hat", 0)], since, ("hat", 0), ("kick", 0)), None)
            self.assertIs(next_meeting(duo(), [None, None], since, ("hat", 1)), None)
        self.assertEqual(next_meeting(duo(), [None, ("hat", 0)], 1, ("hat", 0)), 16)

    def test_large_numbers(self):
        stage = Stage([Track("a", Clip("b", grid=Grid(FAR, 7), length=FAR)),
                       Track("c", Clip("d", grid=Grid(1), length=FAR + 1, rounds=2))], [])
        setting = [("b", 7), ("d", 7)]
        self.assertEqual(next_meeting(stage, setting, 0, ("b", 0), ("d", 0)), 7)
        self.assertEqual(next_meeting(stage, setting, 8, ("b", 0), ("d", 0)), 7 + FAR * (FAR + 1))
        self.assertEqual(next_meeting(stage, setting, -1, ("b", 1), ("d", 1)), 8)

    def test_the_setting_is_unchanged(self):
        setting = [("kick", 4), ("hat", 0)]
        next_meeting(duo(), setting, 0, ("kick", 0))
        self.assertEqual(setting, [("kick", 4), ("hat", 0)])


if __name__ == "__main__":
    unittest.main()
