"""Points 2 and 14 to 16: sounds, clips and leads."""

import unittest

from barclips.errors import BadName, BadNumber, Twice
from barclips.grids import Grid
from barclips.sounds import Clip, Lead, Sound
from tests.helpers import FAR, GridTests

GOOD_NAMES = ("a", "z", "q", "a0", "z9", "kick", "m1n2", "empty", "abcdefghijkl", "z99999999999", "a0b1c2d3e4f5")
BAD_NAMES = (
    "", "0", "9", "0a", "9kick", "abcdefghijklm", "z999999999999", "a" * 13, "a" * 5000, "A", "Kick", "kicK", "_",
    "_a", "a_b", "kick ", " kick", "ki ck", "kick\n", "\nkick", "kick\t", "\t", "\n", " ", "-a", "a-b", "a+1",
)
LETTERS = "abcdefghijklmnopqrstuvwxyz"
# Every character that a string which is passed in may have.
CHARACTERS = [chr(code) for code in range(32, 127)] + ["\n", "\t"]


def clip(**changes):
    return Clip(**{"name": "kick", "grid": Grid(4), "length": 8, **changes})


def lead(**changes):
    return Lead(**{"name": "horn", "grid": Grid(4), "length": 6, **changes})


class NameTests(GridTests):
    """The form of names, for each class that has one."""

    makers = (
        lambda name: Sound(name, Grid(4)),
        lambda name: Clip(name, grid=Grid(4), length=8),
        lambda name: Clip(name, grid=Grid(4), length=None),
        lambda name: Lead(name, grid=Grid(4), length=6),
    )

    def assert_refused(self, name):
        for maker in self.makers:
            self.assert_raises_with(BadName, {"name": name}, maker, name)

    def test_names(self):
        for name in GOOD_NAMES:
            for maker in self.makers:
                self.assertEqual(maker(name).name, name)

    def test_other_texts_are_refused(self):
        for name in BAD_NAMES:
            self.assert_refused(name)

    def test_each_character_at_each_place(self):
        for name in ("a", "kick", "abcdefghijkl"):
            for at in range(len(name)):
                for sign in CHARACTERS:
                    changed = name[:at] + sign + name[at + 1:]
                    if sign in LETTERS or (sign in "0123456789" and at > 0):
                        self.assertEqual(self.makers[0](changed).name, changed)
                        self.assertEqual(self.makers[1](changed).name, changed)
                    else:
                        self.assert_refused(changed)

    def test_each_character_more(self):
        for name in ("a", "kick", "abcdefghijk"):
            for sign in CHARACTERS:
                for changed in (name + sign, sign + name):
                    if sign in LETTERS or (sign in "0123456789" and changed == name + sign):
                        self.assertEqual(self.makers[0](changed).name, changed)
                    else:
                        self.assert_refused(changed)


class SoundTests(GridTests):
    def test_attributes(self):
        grid = Grid(16, 8)
        sound = Sound("fill", grid)
        self.assertEqual(vars(sound), {"name": "fill", "grid": grid})
        self.assertIs(sound.grid, grid)
        self.assertEqual(Sound(grid=grid, name="a").name, "a")

    def test_words(self):
        self.assertEqual(Sound("fill", Grid(16, 8)).words(), ["fill", "16+8"])
        self.assertEqual(Sound("a", Grid(1)).words(), ["a", "1"])
        self.assertEqual(Sound("a", Grid(FAR, -1)).words(), ["a", str(FAR) + "+" + str(FAR - 1)])

    def test_words_are_a_new_list_each_time(self):
        for sound in (Sound("fill", Grid(16, 8)), clip(rounds=2, guards=[1, 3]), lead(stops=["drums"])):
            words = sound.words()
            self.assertIs(type(words), list)
            before = list(words)
            words.append("more")
            words[0] = "other"
            self.assertEqual(sound.words(), before)
            self.assertIsNot(sound.words(), sound.words())

    def test_clips_and_leads_are_sounds(self):
        self.assertTrue(issubclass(Clip, Sound))
        self.assertTrue(issubclass(Lead, Sound))
        self.assertFalse(issubclass(Lead, Clip))
        self.assertFalse(issubclass(Clip, Lead))


class ClipTests(GridTests):
    def test_attributes(self):
        grid = Grid(16, 8)
        fill = Clip("fill", grid=grid, length=16, rounds=2, guards=(0, 12))
        self.assertEqual(
            vars(fill), {"name": "fill", "grid": grid, "length": 16, "rounds": 2, "guards": (0, 12)}
        )
        plain = Clip("a", grid=grid, length=1)
        self.assertEqual((plain.length, plain.rounds, plain.guards), (1, 1, ()))
        empty = Clip("a", length=None, grid=grid)
        self.assertEqual((empty.length, empty.rounds, empty.guards), (None, 1, ()))

    def test_arguments_are_passed_by_keyword(self):
        for call in (
            lambda: Clip("kick", Grid(4), 8), lambda: Clip("kick", Grid(4), length=8),
            lambda: Clip("kick", grid=Grid(4)), lambda: Clip("kick", length=8), lambda: Clip(grid=Grid(4), length=8), lambda: Clip("kick"),
        ):
            with self.assertRaises(TypeError):
                call()
        self.assertEqual(Clip(name="kick", grid=Grid(4), length=8).name, "kick")

    def test_lengths(self):
        for length in (1, 2, 8, 1000, FAR - 1, FAR):
            for rounds in (1, 2, 3, 4):
                made = clip(length=length, rounds=rounds)
                self.assertEqual((made.length, made.rounds, made.span), (length, rounds, rounds * length))
        self.assertEqual(clip(length=None).span, 0)
        self.assertEqual(clip(length=None, guards=[3]).span, 0)

    def test_lengths_below_one_are_refused(self):
        for length in (0, -1, -8, -FAR):
            self.assert_raises_with(BadNumber, {"value": length}, clip, length=length)

    def test_rounds(self):
        for rounds in (-FAR, -1, 0, 5, 6, 64, FAR):
            self.assert_raises_with(BadNumber, {"value": rounds}, clip, rounds=rounds)
            self.assert_raises_with(BadNumber, {"value": rounds}, clip, length=None, rounds=rounds)
        for rounds in (2, 3, 4):
            self.assert_raises_with(BadNumber, {"value": rounds}, clip, length=None, rounds=rounds)
            self.assertEqual(clip(rounds=rounds).rounds, rounds)
        self.assertEqual(clip(length=None, rounds=1).rounds, 1)
        self.assertEqual(Clip.ROUNDS, 4)
        self.assertEqual(clip().ROUNDS, 4)

    def test_guards(self):
        for length, guards in (
            (8, []), (8, [0]), (8, [7]), (8, [0, 7]), (8, [0, 1, 2, 3, 4, 5, 6, 7]), (1, [0]), (FAR, [0, FAR - 1]),
            (40, list(range(40))), (1000, list(range(3, 1000, 25))), (None, []), (None, [0]), (None, [0, 5, FAR]),
            (None, list(range(40))),
        ):
            for given in (guards, tuple(guards)):
                self.assertEqual(clip(length=length, guards=given).guards, tuple(guards))

    def test_guards_that_are_refused(self):
        for length, guards, wrong in (
            (8, [-1], -1), (8, [-FAR], -FAR), (8, [8], 8), (8, [9], 9), (8, [FAR], FAR), (1, [1], 1), (1, [0, 0], 0),
            (8, [0, 0], 0), (8, [3, 3], 3), (8, [3, 2], 2), (8, [7, 0], 0), (8, [0, -1], -1), (8, [0, 7, 8], 8),
            (8, [0, 3, 3, 9], 3), (8, [0, 3, 9, 3], 9), (8, [5, -2, 9], -2), (8, [8, -1], 8), (8, [-1, 8], -1),
            (8, [0, 1, 2, 4, 3, 9], 3), (FAR, [FAR], FAR), (FAR, [FAR - 1, FAR - 1], FAR - 1),
            (None, [-1], -1), (None, [5, 5], 5), (None, [5, 4], 4), (None, [FAR, 0], 0), (None, [0, -FAR], -FAR),
            (40, list(range(40)) + [39], 39), (40, list(range(41)), 40), (None, list(range(39)) + [38], 38),
        ):
            for given in (guards, tuple(guards)):
                self.assert_raises_with(BadNumber, {"value": wrong}, clip, length=length, guards=given)

    def test_the_order_of_the_checks(self):
        faults = (("name", "Kick"), ("length", 0), ("rounds", 5), ("guards", [-3]))
        errors = ((BadName, {"name": "Kick"}), (BadNumber, {"value": 0}), (BadNumber, {"value": 5}))
        for first in range(3):
            for second in range(first + 1, 4):
                changes = dict([faults[first], faults[second]])
                self.assert_raises_with(errors[first][0], errors[first][1], clip, **changes)
        self.assert_raises_with(BadNumber, {"value": 2}, clip, length=None, rounds=2, guards=[-1])
        self.assert_raises_with(BadName, {"name": ""}, clip, name="", length=-1, rounds=0, guards=[-1])

    def test_guards_are_copied(self):
        guards = [1, 3]
        made = clip(guards=guards)
        guards.append(5)
        guards[0] = 0
        self.assertEqual(made.guards, (1, 3))
        self.assertIs(type(made.guards), tuple)
        self.assertEqual(guards, [0, 3, 5])

    def test_words(self):
        for words, changes in (
            (["kick", "4", "8"], {}),
            (["kick", "4", "8", "rounds", "2"], {"rounds": 2}),
            (["kick", "4", "8", "rounds", "4", "guards", "0"], {"rounds": 4, "guards": [0]}),
            (["kick", "4", "8", "guards", "1", "5", "7"], {"guards": (1, 5, 7)}),
            (["kick", "4", "empty"], {"length": None}),
            (["kick", "4", "empty", "guards", "0", "90"], {"length": None, "guards": [0, 90]}),
            (["kick", "16+8", "16", "rounds", "2", "guards", "0", "12"],
             {"grid": Grid(16, 8), "length": 16, "rounds": 2, "guards": (0, 12)}),
            (["z9", "1", str(FAR), "guards", str(FAR - 1)],
             {"name": "z9", "grid": Grid(1, 5), "length": FAR, "guards": [FAR - 1]}),
        ):
            made = clip(**changes).words()
            self.assertEqual(made, words)
            self.assertTrue(all(type(word) is str for word in made))

    def test_words_with_numbers_of_4000_digits(self):
        long = 10**3999
        self.assertEqual(
            Clip("a", grid=Grid(long, 1), length=long, guards=[7]).words(),
            ["a", str(long) + "+1", str(long), "guards", "7"],
        )


class LeadTests(GridTests):
    def test_attributes(self):
        grid = Grid(16, 8)
        self.assertEqual(
            vars(Lead("horn", grid=grid, length=6, stops=["drums"])),
            {"name": "horn", "grid": grid, "length": 6, "stops": ("drums",)},
        )
        self.assertEqual(Lead("horn", length=1, grid=grid).stops, ())
        self.assertEqual(Lead.PATIENCE, 64)
        self.assertEqual(lead().PATIENCE, 64)

    def test_arguments_are_passed_by_keyword(self):
        for call in (
            lambda: Lead("horn", Grid(4), 8), lambda: Lead("horn", Grid(4), length=8), lambda: Lead("horn", length=8),
            lambda: Lead("horn", grid=Grid(4)), lambda: Lead(grid=Grid(4), length=8), lambda: Lead("horn"),
        ):
            with self.assertRaises(TypeError):
                call()
        self.assertEqual(Lead(name="horn", grid=Grid(4), length=8).name, "horn")

    def test_lengths(self):
        for length in (1, 2, 64, 65, FAR):
            self.assertEqual(lead(length=length).length, length)
        for length in (0, -1, -64, -FAR):
            self.assert_raises_with(BadNumber, {"value": length}, lead, length=length)

    def test_stops_of_any_form(self):
        for stops in ([], ["drums"], ["drums", "metal"], ["", " "], ["Drums", "drums", "DRUMS"], ["a b", "9", "\n\t"],
                      ["stops", "a" * 100], [str(at) for at in range(300)]):
            for given in (stops, tuple(stops)):
                self.assertEqual(lead(stops=given).stops, tuple(stops))

    def test_stops_that_occur_twice(self):
        for stops, wrong in (
            (["a", "a"], "a"), (["a", "b", "a"], "a"), (["b", "a", "a", "b"], "a"), (["a", "b", "b", "a"], "b"),
            (["", ""], ""), (["x", "", "y", ""], ""), (["A b", "c", "A b"], "A b"), (["a", "a", "a"], "a"),
            (["a", "b", "c", "d", "e", "f", "g", "c", "a"], "c"), ([str(at) for at in range(300)] + ["7"], "7"),
        ):
            for given in (stops, tuple(stops)):
                self.assert_raises_with(Twice, {"name": wrong}, lead, stops=given)

    def test_the_order_of_the_checks(self):
        self.assert_raises_with(BadName, {"name": "9"}, lead, name="9", length=0)
        self.assert_raises_with(BadName, {"name": "9"}, lead, name="9", stops=["a", "a"])
        self.assert_raises_with(BadNumber, {"value": 0}, lead, length=0, stops=["a", "a"])
        self.assert_raises_with(BadName, {"name": "9"}, lead, name="9", length=0, stops=["a", "a"])

    def test_stops_are_copied(self):
        stops = ["drums"]
        made = lead(stops=stops)
        stops.append("metal")
        self.assertEqual(made.stops, ("drums",))
        self.assertIs(type(made.stops), tuple)

    def test_words(self):
        self.assertEqual(lead().words(), ["horn", "4", "6"])
        self.assertEqual(lead(stops=("b", "a")).words(), ["horn", "4", "6", "stops", "b", "a"])
        self.assertEqual(lead(grid=Grid(8, -1), stops=["stops"]).words(), ["horn", "8+7", "6", "stops", "stops"])
        self.assertEqual(lead(grid=Grid(FAR), length=FAR).words(), ["horn", str(FAR), str(FAR)])


if __name__ == "__main__":
    unittest.main()
