"""Points 36 to 42 and 45: desks against a slow desk that goes tick by tick, over many drawn deeds."""

import random
import unittest

from barclips.deeds import perform
from barclips.desks import Desk
from barclips.errors import BarclipsError
from tests.helpers import FAR
from tests.scenes import bars_of, duo, ladder, rings, single
from tests.slow_desk import Refused, SlowDesk, drawn_deed, live_stages, view_of

ATTRIBUTES = {
    "Unknown": "name", "NotArmed": "name", "NotEmpty": "name", "NotHeld": "name", "BadNumber": "value",
    "BadWord": "word",
}


def outcome(call):
    """What a call returns, or the error that it raises, told by its name and its value."""
    try:
        return ("returned", call())
    except Refused as refused:
        return refused.args
    except BarclipsError as error:
        name = type(error).__name__
        return (name, getattr(error, ATTRIBUTES[name]) if name in ATTRIBUTES else None)


def line_of(deed):
    return " ".join(str(word) for word in deed)


class SlowDeskTests(unittest.TestCase):
    def assert_same(self, desk, slow):
        self.assertEqual(view_of(desk), slow.view())

    def carry_out(self, desk, deed, numbers):
        """Carry out a deed of an attempt as a deed of its own, in one of its forms."""
        word, *given = deed
        if word == "wait" and numbers.randrange(3) == 0:
            before = desk.now
            same = desk
            desk += given[0]
            self.assertIs(desk, same)
            return [event for event in desk if event[0] > before]
        if word == "wait" and numbers.randrange(3) == 0:
            return desk.go_to(desk.now + given[0]) if given[0] >= 0 else desk.advance(given[0])
        if word == "wait":
            return desk.advance(*given)
        return getattr(desk, word)(*given)

    def run_deeds(self, stage, numbers, amount):
        now = numbers.randrange(-50, 50)
        desk, slow = Desk(stage, now), SlowDesk(stage, now)
        for _ in range(amount):
            form = numbers.randrange(12)
            if form == 0:
                self.assertEqual(outcome(desk.undo), outcome(slow.undo))
            elif form in (1, 2):
                deeds = [drawn_deed(numbers, stage) for _ in range(numbers.randrange(5))]
                if form == 1:
                    made = outcome(lambda: desk.attempt(deeds))
                else:
                    deeds = [deed for deed in deeds if deed != ("wait", -1)]
                    made = outcome(lambda: perform(desk, "\n".join(line_of(deed) for deed in deeds)))
                self.assertEqual(made, outcome(lambda: slow.deed("attempt", deeds)))
            elif form == 3:
                name = numbers.choice([track.name for track in stage.tracks] + ["nobody"])
                worth = numbers.choice([None, "nobody"] + [each.name for track in stage.tracks for each in track] * 2)
                made = outcome(lambda: desk.__setitem__(name, worth))
                self.assertEqual(made, outcome(lambda: slow.deed("item", name, worth)))
            else:
                deed = drawn_deed(numbers, stage)
                word = "advance" if deed[0] == "wait" else deed[0]
                made = outcome(lambda: self.carry_out(desk, deed, numbers))
                self.assertEqual(made, outcome(lambda: slow.deed(word, *deed[1:])))
            self.assert_same(desk, slow)
        return desk, slow

    def test_drawn_deeds(self):
        numbers = random.Random(71)
        seen = set()
        for stage in live_stages(500, 72):
            desk, _ = self.run_deeds(stage, numbers, 60)
            seen.update(word for _, word, _ in desk)
        self.assertEqual(seen, {
            "begins", "ends", "records", "recorded", "stops", "swallowed", "dropped",
        })

    def test_drawn_deeds_on_other_stages(self):
        numbers = random.Random(73)
        for stage in (duo(), rings(), single(), ladder()):
            self.run_deeds(stage, numbers, 60)

    def test_undo_down_to_the_beginning(self):
        numbers = random.Random(74)
        for stage in live_stages(20, 75):
            desk, slow = self.run_deeds(stage, numbers, 40)
            while slow.past:
                self.assertIs(desk.undo(), None)
                slow.undo()
                self.assert_same(desk, slow)
            self.assertEqual(outcome(desk.undo), ("NothingToUndo", None))
            self.assert_same(desk, slow)

    def test_an_advance_in_parts(self):
        numbers = random.Random(76)
        for stage in live_stages(40, 77):
            whole, parts = Desk(stage, -7), Desk(stage, -7)
            for _ in range(8):
                deeds = [deed for deed in [drawn_deed(numbers, stage) for _ in range(4)] if deed[0] != "wait"]
                for deed in deeds:
                    self.assertEqual(outcome(lambda: whole.attempt([deed])), outcome(lambda: parts.attempt([deed])))
                ticks = numbers.randrange(30)
                events = []
                for _ in range(ticks):
                    events.extend(parts.advance(1))
                self.assertEqual(whole.advance(ticks), events)
                self.assertEqual(view_of(whole), view_of(parts))

    def test_very_long_advances(self):
        # What has not happened in a whole repetition of the stage never happens.
        numbers = random.Random(78)
        found = 0
        for stage in live_stages(200, 79) + [ladder(), single()]:
            desk, slow = Desk(stage), SlowDesk(stage)
            deeds = [deed for deed in [drawn_deed(numbers, stage) for _ in range(30)] if deed != ("wait", -1)]
            for deed in deeds:
                self.assertEqual(outcome(lambda: desk.attempt([deed])), outcome(lambda: slow.deed("attempt", [deed])))
            ticks = 100 + max((64 + bars_of(desk.stage, lead.name)) * lead.grid.step for lead in stage.leads)
            self.assertEqual(desk.advance(ticks), slow.deed("advance", ticks))
            self.assert_same(desk, slow)
            before = view_of(desk)
            self.assertEqual(desk.advance(FAR), [])
            found += any(hold is not None for hold in desk.holds)
            for key in ("stage", "entries", "waiting", "holds", "armed", "events"):
                self.assertEqual(view_of(desk)[key], before[key])
        self.assertGreater(found, 3)


if __name__ == "__main__":
    unittest.main()
