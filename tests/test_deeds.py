"""Point 45: the deeds of a text."""

import unittest

from barclips.deeds import perform
from barclips.desks import Desk
from barclips.errors import BadLine, BadNumber, NotArmed, NotEmpty, NotHeld, NothingToUndo, Unknown
from tests.scenes import rings
from tests.slow_desk import view_of
from tests.test_desks import DeskTests, taper

LINES = ("press kick", "stop drums", "hold horn", "hold horn 3", "drop horn", "arm tape", "wait 5", "wait 0")
TUPLES = [("press", "kick"), ("stop", "drums"), ("hold", "horn"), ("hold", "horn", 3), ("drop", "horn"),
          ("arm", "tape"), ("wait", 5), ("wait", 0)]
FAULTY = (
    "", " ", "press", "stop", "hold", "drop", "arm", "wait", "press ", "press  kick", " press kick", "press kick ",
    "press kick 3", "press kick horn", "stop drums 1", "drop horn 1", "arm tape 1", "wait 5 5", "hold horn 3 3",
    "hold horn  3", "hold  horn", "hold horn ", "hold horn x", "hold horn -1", "hold horn +1", "hold horn 01",
    "hold horn 00", "hold horn 1.0", "hold horn 3 ", "wait x", "wait -1", "wait +1", "wait 05", "wait 00", "wait  5",
    "wait 5 ", " wait 5", "wait " + "1" * 31, "wait " + "0" * 31, "hold horn " + "1" * 31, "wait 1 2", "wait\t5",
    "press\tkick", "\tpress kick", "Press kick", "PRESS kick", "advance 5", "go_to 5", "undo", "attempt", "x",
    "wait horn", "press kick\t 4", "wait 5\t", "wait \t5", "hold horn\t3 x", "hold horn 3\t", "enter kick", "hold 3 horn",
    "wait 1e3",
    "wait 1_000", "wait 0x1", "press press press",
)


class PerformTests(DeskTests):
    def assert_performed(self, text, deeds):
        """The text does what the attempt of these deeds does."""
        desk, other = Desk(taper()), Desk(taper())
        desk.press("kick")
        other.press("kick")
        made = perform(desk, text)
        self.assertIs(type(made), list)
        self.assertEqual(made, other.attempt(deeds))
        self.assertEqual(view_of(desk), view_of(other))
        desk.undo()
        desk.undo()
        self.assert_refused(desk, NothingToUndo, {}, desk.undo)

    def test_every_line(self):
        self.assert_performed("\n".join(LINES), TUPLES)
        self.assert_performed("press kick", TUPLES[:1])
        self.assert_performed("hold horn\ndrop horn\nhold horn 64\nwait 64\nwait 30",
                              [("hold", "horn"), ("drop", "horn"), ("hold", "horn", 64), ("wait", 64), ("wait", 30)])
        self.assert_performed("arm tape\npress blank\nwait 3\npress blank\nwait 4\nstop tape\nwait 10", [
            ("arm", "tape"), ("press", "blank"), ("wait", 3), ("press", "blank"), ("wait", 4), ("stop", "tape"),
            ("wait", 10),
        ])

    def test_the_empty_text(self):
        self.assert_performed("", [])
        desk = Desk(taper())
        self.assertEqual(perform(desk=desk, text=""), [])
        desk.undo()
        self.assert_refused(desk, NothingToUndo, {}, desk.undo)

    def test_numbers(self):
        for number in ("0", "1", "10", "9" * 30, "1" + "0" * 29):
            self.assert_performed("wait " + number, [("wait", int(number))])
        self.assert_performed("hold horn 1\nhold horn 64", [("hold", "horn", 1), ("hold", "horn", 64)])

    def test_faulty_lines(self):
        for line in FAULTY:
            desk = Desk(taper())
            desk.press("kick")
            if line:
                self.assert_refused(desk, BadLine, {"number": 1}, perform, desk, line)
            self.assert_refused(desk, BadLine, {"number": 1}, perform, desk, line + "\nwait 5")
            self.assert_refused(desk, BadLine, {"number": 2}, perform, desk, "wait 5\n" + line)
            self.assert_refused(desk, BadLine, {"number": 9}, perform, desk, "\n".join(LINES) + "\n" + line)

    def test_the_first_faulty_line(self):
        for line in FAULTY:
            for other in FAULTY[::5]:
                desk = Desk(taper())
                text = "wait 1\n" + line + "\n" + other + "\npress kick"
                self.assert_refused(desk, BadLine, {"number": 2}, perform, desk, text)

    def test_newlines(self):
        for text, number in (("wait 5\n", 2), ("\n", 1), ("\nwait 5", 1), ("wait 5\n\nwait 5", 2), ("wait 5\n\n", 2)):
            desk = Desk(taper())
            self.assert_refused(desk, BadLine, {"number": number}, perform, desk, text)

    def test_faulty_lines_come_before_errors_of_deeds(self):
        desk = Desk(taper())
        self.assert_refused(desk, BadLine, {"number": 3}, perform, desk, "press x\nwait 5\nwait x")
        self.assert_refused(desk, BadLine, {"number": 2}, perform, desk, "drop horn\n")

    def test_errors_of_deeds(self):
        for line, error, values in (
            ("press x", Unknown, {"name": "x"}), ("press blank", NotArmed, {"name": "tape"}),
            ("stop kick", Unknown, {"name": "kick"}), ("hold kick", Unknown, {"name": "kick"}),
            ("hold horn 0", BadNumber, {"value": 0}), ("hold horn 65", BadNumber, {"value": 65}),
            ("hold horn " + "9" * 30, BadNumber, {"value": 10**30 - 1}), ("hold x 65", Unknown, {"name": "x"}),
            ("drop x", Unknown, {"name": "x"}), ("drop pipe", NotHeld, {"name": "pipe"}),
            ("arm x", Unknown, {"name": "x"}), ("arm drums", NotEmpty, {"name": "drums"}),
        ):
            for text in (line, "press kick\nhold horn\nwait 9\n" + line, line + "\nwait 1\ndrop pipe"):
                desk = Desk(taper())
                desk.press("kick")
                self.assert_refused(desk, error, values, perform, desk, text)

    def test_names_of_any_form(self):
        # A name is any text without a space, and the desk tells whether something has it.
        for name in ("3", "x\ty", "\t", "Kick", "a-b", "!", "press", "kick\t", "~" * 50, "wait", "0"):
            for word in ("press", "stop", "hold", "drop", "arm"):
                desk = Desk(taper())
                self.assert_refused(desk, Unknown, {"name": name}, perform, desk, f"wait 3\n{word} {name}")
            self.assert_refused(desk, Unknown, {"name": name}, perform, desk, f"hold {name} 7")

    def test_other_stages(self):
        desk = Desk(rings())
        self.assertEqual(perform(desk, "press low\npress high\nhold drone 2\nwait 30"), [
            (0, "swallowed", "low"), (10, "begins", "high"), (11, "begins", "drone"), (15, "ends", "drone"),
        ])


if __name__ == "__main__":
    unittest.main()
