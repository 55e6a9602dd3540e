"""Points 43 and 44: the texts of stages."""

import unittest

from barclips.errors import BadLine, EmptyClip, NoClips, TooMany, Twice, Unknown
from barclips.grids import Grid
from barclips.sounds import Clip, Lead
from barclips.stages import Stage
from barclips.tracks import Track
from tests.helpers import FAR, GridTests, state
from tests.scenes import bare, clip, duo, huge, rings, stages
from tests.test_sounds import BAD_NAMES

NINES = "9" * 30
RINGS = """track drums
clip kick 4 3 rounds 2 guards 0 2
clip snare 6+3 5 guards 1
clip rim 1 1
track tape
clip blank 5+2 empty guards 7
track bass
clip low 2+1 4
clip high 10 2
track keys
clip pad 3 6
lead horn 2 4
lead pipe 1 4
lead bell 15+7 20 stops bass drums
lead drone 12+11 4"""

# What follows a name, in lines of clips that are faulty.
CLIP_FAULTS = (
    "", " ", " 4", " 4 ", " 4 8 ", " 4  8", "  4 8", " 4 8 rounds", " 4 8 guards", " 4 8 guards ", " 4 8 rounds ",
    " 4 8 rounds 1", " 4 8 rounds 0", " 4 8 rounds 5", " 4 8 rounds -2", " 4 8 rounds 02", " 4 8 rounds two",
    " 4 8 rounds 1 guards 3", " 4 8 rounds 2 guards", " 4 8 rounds 2 3", " 4 8 rounds 2 rounds 2",
    " 4 8 rounds guards 3", " 4 8 guards 3 rounds 2", " 4 8 guard 3", " 4 8 Guards 3", " 4 8 stops drums", " 4 8 3",
    " 4 8 8", " 4 8 rounds 2 guards guards 3", " 4 8 guards guards", " 4 8 guards 3 guards 5", " 4 8 guards 03",
    " 4 8 guards 8", " 4 8 guards 3 3", " 4 8 guards 5 3", " 4 8 guards -1", " 4 8 guards +1", " 4 8 guards 3  5",
    " 4 8 guards 3 5 ", " 4 8 guards\t3", " 4 8\t", " 4\t8", "\t4 8", " 4 8 guards 3\t5", " 4 8 guards x",
    " 4 0", " 4 -1", " 4 08", " 4 8.0", " 4 Empty", " 4 None", " 4 +8", " 4 8 empty", " 4 empty 8", " 4 empty empty",
    " 4 empty rounds 2", " 4 empty rounds 1", " 4 empty guards", " 4 empty guards 3 3", " 4 empty guards -1",
    " 0 8", " -4 8", " 04 8", " 4+0 8", " 4+4 8", " 4+9 8", " 4+ 8", " +4 8", " 4++1 8", " 4+01 8", " x 8", " 4 8 8 8",
    " empty 8", " 4 9" + NINES, " 9" + NINES + " 8", " 9" + NINES + "+3 8", " 9" + NINES + "+8" + NINES + " 8",
    " 4 8 rounds 9" + NINES, " 4 9" + NINES + " guards 3", " 4 empty guards 9" + NINES,
    " 4 8 guards 9" + NINES, " 4 empty guards 3 1" + "0" * 5000, " 4 1" + "0" * 5000, " " + "0" * 5000 + " 8",
)
# What follows a name, in lines of leads that are faulty.
LEAD_FAULTS = (
    "", " ", " 4", " 4 ", " 4 8 ", " 4  8", "  4 8", " 4 8 stops", " 4 8 stops ", " 4 8 drums", " 4 8 stop drums",
    " 4 8 Stops drums", " 4 8 stops drums drums", " 4 8 stops drums bass drums", " 4 8 stops Drums", " 4 8 stops 9",
    " 4 8 stops drums  bass", " 4 8 stops drums ", " 4 8 stops drums\tbass", " 4 8 stops a_b", " 4 8 stops stops stops",
    " 4 8 stops abcdefghijklm", " 4 8 stops drums 4 8", " 4 8 rounds 2", " 4 8 guards 3", " 4 0", " 4 -1", " 4 08",
    " 4 empty", " 4 None", " 0 8", " 4+0 8", " 4+4 8", " 04 8", " x 8", " 4\t8", "\t4 8", " 4 8\t", " 4 8 8",
    " 4 8 stops drums stops bass stops", " 4 9" + NINES, " 9" + NINES + " 8", " 9" + NINES + "+1 8",
    " 4 1" + "0" * 5000,
)
# Lines that are faulty wherever they stand.
OTHER_FAULTS = (
    "", " ", "\t", "track", "track ", " track a", "track  a", "track a ", "track a b", "track A", "track 9",
    "track a_b", "track a\t", "track\ta", "Track a", "TRACK a", "tracks a", "track abcdefghijklm",
    "track track track", "clip", "lead", "clips a 4 8", "leads a 4 8", "a", "a 4 8", "clip\ta 4 8", "lead\ta 4 8",
    " clip a 4 8", " lead a 4 8", "Clip a 4 8", "Lead a 4 8", "clip  a 4 8", "lead  a 4 8", "#", "track a # a", "stage", "name a",
)


def faulty_lines():
    lines = list(OTHER_FAULTS)
    lines.extend("clip x" + fault for fault in CLIP_FAULTS)
    lines.extend("lead x" + fault for fault in LEAD_FAULTS)
    for name in BAD_NAMES:
        # Two names of the right form are two stops.
        if "\n" not in name and name != "ki ck":
            lines.extend(["track " + name, f"clip {name} 4 8", f"lead {name} 4 8", f"lead x 4 8 stops {name}"])
            lines.append(f"lead x 4 8 stops drums {name} bass")
    return lines


class WriteTests(GridTests):
    def test_write(self):
        self.assertEqual(rings().write(), RINGS)
        self.assertEqual(bare().write(), "lead horn 4+1 4")
        self.assertEqual(Stage([Track("a", clip("b", "4", 8))]).write(), "track a\nclip b 4 8")
        self.assertEqual(
            duo().write(),
            "track drums\nclip kick 4 8 guards 0\ntrack metal\nclip hat 4 16 guards 0\n"
            "lead horn 4 6\nlead pipe 8+4 6\nlead bell 3+1 1 stops metal",
        )

    def test_the_stage_without_tracks_and_leads(self):
        self.assertEqual(Stage([]).write(), "")
        self.assertEqual(Stage([], []).write(), "")

    def test_numbers_of_many_digits_are_written(self):
        lines = huge().write().split("\n")
        self.assertEqual(lines[1], f"clip kick {FAR}+5 {FAR - 1} rounds 2 guards 0 {FAR - 2}")
        self.assertEqual(lines[-2], f"lead horn {FAR + 1}+7 {FAR}")
        long = 10**3999
        stage = Stage([], [Lead("a", grid=Grid(long), length=long)])
        self.assertEqual(stage.write(), f"lead a {long} {long}")


class ReadTests(GridTests):
    def assert_stage(self, text, stage):
        read = Stage.read(text)
        self.assertIs(type(read), Stage)
        self.assertEqual(state(read), state(stage))
        self.assertEqual(read.write(), text)

    def test_there_and_back(self):
        for stage in stages() + [Stage([])]:
            self.assert_stage(stage.write(), stage)
        self.assert_stage("", Stage([], []))
        self.assert_stage(RINGS, rings())
        self.assertEqual(Stage.read(text="lead horn 4+1 4").write(), "lead horn 4+1 4")

    def test_all_kinds_of_clips_and_leads(self):
        for length in ("1", "8", "empty", NINES):
            for grid in ("1", "4", "4+3", NINES, NINES + "+1"):
                for rounds in ("", " rounds 2", " rounds 4"):
                    for guards in ("", " guards 0"):
                        if length != "empty" or not rounds:
                            text = f"track a\nclip b {grid} {length}{rounds}{guards}"
                            made = Clip(
                                "b", grid=Grid.read(grid), length=None if length == "empty" else int(length),
                                rounds=int(rounds[-1:] or 1), guards=[0] if guards else [],
                            )
                            self.assert_stage(text, Stage([Track("a", made)]))
                if length != "empty":
                    made = Lead("b", grid=Grid.read(grid), length=int(length))
                    self.assert_stage(f"lead b {grid} {length}", Stage([], [made]))

    def test_names_that_are_words_of_lines(self):
        text = (
            "track track\nclip clip 4 8\nclip empty 4 8 guards 0\ntrack rounds\nclip guards 4 empty guards 3\n"
            "track stops\nclip x4 4 8 rounds 2\nlead lead 4 8 stops stops rounds track"
        )
        stage = Stage.read(text)
        self.assertEqual(stage.write(), text)
        self.assertEqual(stage.find_lead("lead").stops, ("stops", "rounds", "track"))
        self.assertEqual(stage.find_clip("guards").guards, (3,))

    def test_thirty_digits_are_read(self):
        text = f"track a\nclip b {NINES}+{NINES[:-1]}8 {NINES} rounds 2 guards {NINES[:-1]}8\nlead c {NINES} {NINES}"
        stage = Stage.read(text)
        self.assertEqual(stage.write(), text)
        nines = 10**30 - 1
        self.assertEqual(state(stage.find_clip("b").grid), state(Grid(nines, nines - 1)))
        self.assertEqual(stage.find_clip("b").guards, (nines - 1,))
        self.assertEqual(stage.find_lead("c").length, nines)
        self.assertEqual(Stage.read(f"track a\nclip b 4 empty guards {NINES}").find_clip("b").guards, (nines,))


class FaultTests(GridTests):
    def assert_fault(self, lines, number):
        text = "\n".join(lines)
        with self.subTest(text[:80]):
            self.assert_raises_with(BadLine, {"number": number}, Stage.read, text)

    def test_a_faulty_line_at_each_place(self):
        right = RINGS.split("\n")
        for fault in faulty_lines():
            for at in (0, 1, 4, 11, len(right)):
                if fault or at < len(right):
                    self.assert_fault(right[:at] + [fault] + right[at:], at + 1)

    def test_a_faulty_line_in_place_of_each_line(self):
        right = RINGS.split("\n")
        for at in range(len(right)):
            for fault in ("", "x", right[at] + " ", " " + right[at], right[at].replace(" ", "  ", 1), right[at] + "\t",
                          right[at].upper(), right[at].replace(" ", "\t", 1)):
                self.assert_fault(right[:at] + [fault] + right[at + 1:], at + 1)

    def test_faulty_lines_behind_a_line_of_their_kind(self):
        # Here it is the line itself that is faulty, not the place where it stands.
        for fault in CLIP_FAULTS:
            self.assert_fault(["track a", "clip x" + fault], 2)
            self.assert_fault(["track a", "clip b 4 8", "clip x" + fault, "lead horn 4 8"], 3)
        for fault in LEAD_FAULTS:
            self.assert_fault(["lead x" + fault], 1)
            self.assert_fault(["track drums", "clip b 4 8", "lead y 4 8", "lead x" + fault, "lead z 4 8"], 4)

    def test_a_faulty_line_alone(self):
        for fault in faulty_lines():
            if fault:
                self.assert_fault([fault], 1)
        self.assert_fault(["", ""], 1)
        self.assert_fault(["", "", ""], 1)

    def test_a_newline_at_an_end(self):
        for stage in stages():
            lines = stage.write().split("\n")
            self.assert_fault(lines + [""], len(lines) + 1)
            self.assert_fault([""] + lines, 1)
        self.assert_fault(["track a", "clip b 4 8", "", "lead c 4 8"], 3)

    def test_lines_in_a_wrong_place(self):
        self.assert_fault(["clip b 4 8"], 1)
        self.assert_fault(["clip b 4 8", "track a"], 1)
        self.assert_fault(["lead b 4 8", "track a"], 2)
        self.assert_fault(["lead b 4 8", "clip a 4 8"], 2)
        self.assert_fault(["track a", "clip b 4 8", "lead c 4 8", "clip d 4 8"], 4)
        self.assert_fault(["track a", "clip b 4 8", "lead c 4 8", "track d", "clip e 4 8"], 4)
        self.assert_fault(["track a", "clip b 4 8", "lead c 4 8", "lead d 4 8", "track e"], 5)
        self.assert_fault(["track a", "lead c 4 8", "clip b 4 8"], 3)

    def test_two_faulty_lines_at_once(self):
        right = RINGS.split("\n")
        for first, second in (("", "track A"), ("track A", ""), ("lead x", "clip x"), ("clip x 4 8 rounds 1", " ")):
            for at in (0, 3, 12):
                for by in (at, at + 1, len(right)):
                    self.assert_fault(right[:at] + [first] + right[at:by] + [second] + right[by:], at + 1)

    def test_other_line_ends_are_no_newlines(self):
        for end in ("\t", "  ", " \t "):
            self.assert_fault(["track a" + end + "clip b 4 8"], 1)


class LaterCheckTests(GridTests):
    """What is checked if no line is faulty."""

    tracks = (
        (["track none"], NoClips, {"name": "none"}),
        (["track crowd"] + [f"clip k{at} 4 8" for at in range(4)], TooMany, {"kind": "clips", "most": 3}),
        (["track part", "clip y 4 8", "clip z 4 empty"], EmptyClip, {"name": "z"}),
        (["track twin", "clip y 4 8", "clip z 4 8", "clip y 4 8"], Twice, {"name": "y"}),
    )
    stages = (
        ([line for at in range(7) for line in (f"track t{at}", f"clip c{at} 4 8")], TooMany,
         {"kind": "tracks", "most": 6}),
        ([f"lead l{at} 4 8" for at in range(5)], TooMany, {"kind": "leads", "most": 4}),
        ([line for at in range(5) for line in (f"track t{at}", f"clip c{at} 4 8", f"clip d{at} 4 8")], TooMany,
         {"kind": "clips", "most": 8}),
        (["track a", "clip a 4 8"], Twice, {"name": "a"}),
        (["track a", "clip b 4 8", "track a", "clip c 4 8"], Twice, {"name": "a"}),
        (["track a", "clip b 4 8", "lead c 4 8 stops a x y"], Unknown, {"name": "x"}),
        (["lead c 4 8 stops a"], Unknown, {"name": "a"}),
        (["track a", "clip b 4 8 rounds 2 guards 0 1 2 3"], TooMany, {"kind": "guards", "most": 6}),
        (["track a", "clip b 4 empty guards 0 1 2 3 4 5 6"], TooMany, {"kind": "guards", "most": 6}),
    )

    def assert_refused(self, error, values, lines):
        self.assert_raises_with(error, values, Stage.read, "\n".join(lines))

    def test_each_check_alone(self):
        for lines, error, values in self.tracks + self.stages:
            self.assert_refused(error, values, lines)
        for lines, error, values in self.tracks:
            self.assert_refused(error, values, ["track a", "clip b 4 8"] + lines + ["track c", "clip d 4 8"])
            self.assert_refused(error, values, lines + ["lead c 4 8"])

    def test_the_first_faulty_track_comes_first(self):
        for first, error, values in self.tracks:
            for second, _, _ in self.tracks:
                self.assert_refused(error, values, first + second)

    def test_tracks_come_before_the_stage(self):
        for lines, error, values in self.tracks:
            for others, _, _ in self.stages:
                if not any(line.startswith("lead") for line in others):
                    self.assert_refused(error, values, others + lines)
                self.assert_refused(error, values, lines + others)

    def test_a_faulty_line_comes_before_all(self):
        for lines, _, _ in self.tracks + self.stages:
            for fault in ("", "lead x 4 8 stops", "track A", "clip x 4 8 rounds 1"):
                self.assert_refused(BadLine, {"number": len(lines) + 1}, lines + [fault])


if __name__ == "__main__":
    unittest.main()
