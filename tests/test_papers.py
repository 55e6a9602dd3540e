"""Points 2, 23 and 32: checks of results."""

import random
import unittest

from barclips.bars import verdict
from barclips.errors import BadNumber, BadSetting, EmptyClip, OffGrid, Unknown
from barclips.papers import check_owners, check_reach, check_tree
from barclips.stages import Stage
from barclips.tracks import Track
from barclips.waits import longest, worst
from tests.helpers import FAR, GridTests, state
from tests.scenes import (
    Bars, bare, clip, coprime, drawn, duo, ladder, lead, limits, quiet, rings, settings_of, single, stages, turns,
    uneven,
)
from tests.slow_waits import SlowTree, greatest_bar
from tests.test_bars import ladder_setting
from tests.test_waits import leads_of

FAULTS = (
    ([None], BadSetting, {"size": 1}), ([("x", 0), None, None, None], Unknown, {"name": "x"}),
    ([None, ("blank", 2), None, None], EmptyClip, {"name": "blank"}),
    ([("kick", 3), None, None, None], OffGrid, {"tick": 3}),
)


class ReachTests(GridTests):
    def test_against_the_bars(self):
        for stage in stages() + drawn(10, 11):
            for setting in settings_of(stage, 5):
                for sound in stage.leads:
                    bars = Bars(stage, sound.name, setting)
                    for number in (0, 1, 2, 5, -1, -30, FAR, -FAR):
                        for many in (0, 1, 2, 3, 5, 31, 64):
                            expected = not any(bars.is_open(number + at) for at in range(many))
                            for given in (setting, tuple(setting)):
                                made = check_reach(stage, sound.name, given, number, many)
                                self.assertIs(made, expected)

    def test_waits_are_reached(self):
        for stage, name in leads_of([duo(), rings(), uneven(), limits(4, 8, 16, 32, 64, 128)] + drawn(20, 12)):
            for wait in (longest(stage, name), worst(stage, name, -7)):
                many = 64 if wait.forever else wait.bars
                self.assertIs(check_reach(stage, name, wait.setting, wait.number, many), True)
                if not wait.forever:
                    self.assertIs(check_reach(stage, name, wait.setting, wait.number, many + 1), False)
                    self.assertIs(check_reach(stage, name, wait.setting, wait.number + many, 1), False)

    def test_counts(self):
        self.assertIs(check_reach(duo(), "horn", [None, None], 0, 0), True)
        self.assertIs(check_reach(duo(), "horn", [None, None], 0, 1), False)
        self.assertIs(check_reach(duo(), "horn", [("kick", 0), None], 2, 1), True)
        self.assertIs(check_reach(duo(), "horn", [("kick", 0), ("hat", 4)], 0, 3), True)
        self.assertIs(check_reach(duo(), "horn", [("kick", 0), ("hat", 4)], 0, 4), False)
        self.assertIs(check_reach(ladder(), "horn", ladder_setting(), -FAR, 64), True)
        self.assertIs(check_reach(stage=bare(), lead="horn", setting=[], number=3, bars=0), True)

    def test_counts_that_are_refused(self):
        for many in (-1, -2, 65, 66, FAR, -FAR):
            self.assert_raises_with(BadNumber, {"value": many}, check_reach, duo(), "horn", [None, None], 0, many)
            self.assert_raises_with(
                BadNumber, {"value": many}, check_reach, ladder(), "horn", ladder_setting(), 5, many
            )

    def test_the_order_of_the_checks(self):
        for setting, error, values in FAULTS:
            for many in (0, 64, -1, 65):
                self.assert_raises_with(error, values, check_reach, rings(), "horn", setting, 0, many)
                self.assert_raises_with(Unknown, {"name": "drums"}, check_reach, rings(), "drums", setting, 0, many)
        self.assert_raises_with(Unknown, {"name": "x"}, check_reach, rings(), "x", [None] * 4, 0, 65)


def owned(stage, name, setting, owners):
    """Tell whether the owners close their bars, by going through the bars."""
    bars = Bars(stage, name, setting)
    return len(owners) > 0 and all(
        owners[number % len(owners)] in bars.closed_by(number) for number in range(bars.many * len(owners))
    )


class OwnerTests(GridTests):
    def assert_owners(self, stage, name, setting, owners, expected):
        for given in (list(owners), tuple(owners)):
            for setting_given in (list(setting), tuple(setting)):
                self.assertIs(check_owners(stage, name, setting_given, given), expected)

    def test_owners_of_lockouts(self):
        found = 0
        for stage in stages() + drawn(40, 13):
            for setting in settings_of(stage, 8) + [longest(stage, sound.name).setting for sound in stage.leads]:
                for sound in stage.leads:
                    told = verdict(stage, sound.name, setting, 0)
                    if not told:
                        found += 1
                        self.assert_owners(stage, sound.name, setting, told.owners, True)
                        self.assert_owners(stage, sound.name, setting, told.owners * 3, True)
                        turned = told.owners[1:] + told.owners[:1]
                        self.assert_owners(stage, sound.name, setting, turned,
                                           owned(stage, sound.name, setting, turned))
        self.assertGreater(found, 30)

    def test_owners_of_waits(self):
        for stage, name in ((ladder(), "horn"), (ladder(), "bell"), (single(), "pipe"), (single(), "horn")):
            for wait in (longest(stage, name), worst(stage, name, -FAR)):
                self.assert_owners(stage, name, wait.setting, wait.owners, True)

    def test_against_the_bars(self):
        numbers = random.Random(5)
        seen = set()
        for stage in drawn(60, 14) + [single(), turns(), rings()]:
            guarded_places = [(track.name, place) for track in stage.tracks for place in track.places]
            for sound in stage.leads:
                for setting in settings_of(stage, 3) + [longest(stage, sound.name).setting]:
                    for many in (1, 2, 3, 4):
                        owners = [numbers.choice(guarded_places or [("t0", 0)]) for _ in range(many)]
                        expected = owned(stage, sound.name, setting, owners)
                        seen.add(expected)
                        self.assert_owners(stage, sound.name, setting, owners, expected)
        self.assertEqual(seen, {True, False})

    def test_longer_cycles_and_other_owners(self):
        stage = Stage([Track("a", clip("b", "1", 2, 1, [0])), Track("c", clip("d", "1", 2, 1, [0, 1]))],
                      [lead("horn", "1"), lead("pipe", "2")])
        setting = [("b", 0), ("d", 0)]
        self.assertEqual(verdict(stage, "horn", setting, 0).owners, (("a", 0), ("c", 1)))
        for owners in ([("a", 0), ("c", 1)], [("c", 0), ("c", 1)], [("a", 0), ("c", 1), ("c", 0), ("c", 1)]):
            self.assert_owners(stage, "horn", setting, owners, True)
            self.assert_owners(stage, "horn", setting, owners * 50, True)
        for owners in ([("c", 1), ("a", 0)], [("a", 0)], [("a", 0), ("c", 0)], [("a", 0), ("c", 1), ("a", 0)],
                       [("a", 0), ("c", 1), ("a", 0), ("c", 1), ("c", 0)], [("a", 0), ("a", 0)]):
            self.assert_owners(stage, "horn", setting, owners, False)
        for owners in ([("a", 0)], [("c", 0)], [("c", 0), ("a", 0), ("c", 0)]):
            self.assert_owners(stage, "pipe", setting, owners, True)
        self.assert_owners(stage, "pipe", setting, [("c", 1)], False)

    def test_lists_that_are_wrong(self):
        setting = ladder_setting()
        owners = verdict(ladder(), "horn", setting, 0).owners
        self.assert_owners(ladder(), "horn", setting, owners, True)
        self.assert_owners(ladder(), "horn", setting, [], False)
        self.assert_owners(ladder(), "horn", setting, owners[:-1], False)
        self.assert_owners(ladder(), "horn", setting, owners + owners[:1], False)
        for wrong in (("track1", 0), ("track9", 0), ("horn", 0), ("clip0", 0), ("", 0), ("track0", 1), ("track0", -1),
                      ("track0", 4), ("track0", FAR), ("track0", -4)):
            self.assert_owners(ladder(), "horn", setting, (wrong,) + owners[1:], False)

    def test_silent_and_quiet_tracks(self):
        owners = verdict(ladder(), "horn", ladder_setting(), 0).owners
        self.assert_owners(ladder(), "horn", [None] + ladder_setting()[1:], owners, False)
        self.assert_owners(ladder(), "horn", [None] * 6, owners, False)
        self.assert_owners(bare(), "horn", [], [("a", 0)], False)
        self.assert_owners(bare(), "horn", [], [], False)
        self.assert_owners(quiet(), "horn", [("kick", 0), None], [("drums", 0)], False)
        self.assert_owners(quiet(), "horn", [("kick", 0), None], [("tape", 0)], False)
        # A guarded place that the bars never meet.
        self.assert_owners(single(), "pipe", [("brick", 0)], [("wall", 0), ("wall", 3)], True)
        self.assert_owners(single(), "pipe", [("brick", 0)], [("wall", 1), ("wall", 4)], False)

    def test_the_order_of_the_checks(self):
        for owners in ([], [("drums", 0)], [("x", -1)]):
            for setting, error, values in FAULTS:
                self.assert_raises_with(error, values, check_owners, rings(), "horn", setting, owners)
                self.assert_raises_with(Unknown, {"name": "kick"}, check_owners, rings(), "kick", setting, owners)
        self.assertIs(check_owners(stage=duo(), lead="horn", setting=[None, None], owners=[]), False)


def replaced(tree, change):
    """The trees in which one node is replaced by one of the nodes that `change` makes of it."""
    found = list(change(tree))
    bar, branches = tree
    for at, (*way, below) in enumerate(branches):
        for other in replaced(below, change):
            found.append((bar, (*branches[:at], (*way, other), *branches[at + 1:])))
    return found


def other_nodes(tree):
    """Nodes with one thing changed."""
    bar, branches = tree
    found = [(other, branches) for other in (-1, bar - 1, bar + 1, bar + 2, 64, FAR)]
    for at, (track, place, entered, below) in enumerate(branches):
        before, after = branches[:at], branches[at + 1:]
        found.append((bar, before + after))
        found.append((bar, before + (branches[at], branches[at]) + after))
        found.append((bar, before + after + (branches[at],)))
        for way in ((track + "x", place, entered), (entered, place, entered), (track, place + 1, entered),
                    (track, place - 1, entered), (track, place, "nobody"), (track, place, track), ("", place, "")):
            found.append((bar, before + ((*way, below),) + after))
    found.append((bar, branches + (("t0", 0, "c0x0", (bar + 1, ())),)))
    return found


class TreeTests(GridTests):
    def trees(self):
        """Stages, names, trees and numbers, of small stages."""
        for stage, name in leads_of([duo(), coprime(), uneven(), turns(), quiet(), bare()] + drawn(30, 15)):
            for number in (None, 0, 3, -5):
                wait = longest(stage, name) if number is None else worst(stage, name, number)
                if not wait.forever:
                    yield stage, name, wait.tree, number

    def check(self, stage, name, tree, limit, number):
        if number is None:
            return check_tree(stage, name, tree, limit=limit)
        return check_tree(stage, name, tree, limit=limit, number=number)

    def test_trees_of_waits(self):
        for stage, name, tree, number in self.trees():
            bars = greatest_bar(tree)
            for limit, expected in ((bars, True), (bars + 1, True), (64, True), (FAR, True), (bars - 1, False),
                                    (-1, False), (-FAR, False)):
                self.assertIs(self.check(stage, name, tree, limit, number), expected)

    def test_trees_at_the_limits(self):
        stage = limits(4, 8, 16, 32, 64, 128)
        for number in (None, 0, 1, -FAR):
            tree = (longest(stage, "horn") if number is None else worst(stage, "horn", number)).tree
            for limit, expected in ((62, False), (63, True), (64, True), (0, False)):
                self.assertIs(self.check(stage, "horn", tree, limit, number), expected)

    def test_one_thing_changed(self):
        numbers = random.Random(7)
        seen = {True: 0, False: 0}
        for stage, name, tree, number in self.trees():
            model = SlowTree(stage, name)
            others = replaced(tree, other_nodes)
            for other in numbers.sample(others, min(len(others), 20)):
                for limit in (greatest_bar(tree), 70):
                    expected = model.shows(other, limit, model.firsts(number), {})
                    seen[expected] += 1
                    self.assertIs(self.check(stage, name, other, limit, number), expected)
        self.assertGreater(seen[False], 2000)
        self.assertGreater(seen[True], 5)

    def test_all_changes_of_one_tree(self):
        wait = longest(coprime(), "each")
        model = SlowTree(coprime(), "each")
        for other in replaced(wait.tree, other_nodes):
            expected = model.shows(other, wait.bars + 1, model.firsts(None), {})
            self.assertIs(check_tree(coprime(), "each", other, limit=wait.bars + 1), expected)

    def test_changes_by_hand(self):
        metal = ("metal", 0, "hat", (3, ()))
        drums = ("drums", 0, "kick", (2, ()))
        first, second = ("drums", 0, "kick", (1, (metal,))), ("metal", 0, "hat", (1, (drums,)))
        for tree, expected in (
            ((0, (first, second)), True), ((0, (second, first)), False), ((0, (first,)), False), ((0, ()), False),
            ((0, (first, first, second)), False), ((1, (first, second)), False), ((-1, (first, second)), False),
            ((0, (("drums", 0, "kick", (1, ())), second)), False),
            ((0, (("drums", 0, "kick", (3, (metal,))), second)), False),
            ((0, (("drums", 0, "kick", (1, (metal, metal))), second)), False),
            ((0, (("drums", 0, "kick", (1, (metal, drums))), second)), False),
            ((0, (("drums", 0, "hat", (1, (metal,))), second)), False),
            ((0, (("metal", 0, "kick", (1, (metal,))), second)), False),
            ((0, (("drums", 1, "kick", (1, (metal,))), second)), False),
            ((0, (("drums", 8, "kick", (1, (metal,))), second)), False),
            ((0, (("x", 0, "kick", (1, (metal,))), second)), False),
            ((0, (("drums", 0, "x", (1, (metal,))), second)), False),
        ):
            self.assertIs(check_tree(duo(), "horn", tree, limit=9), expected)

    def test_bars_that_are_not_the_least(self):
        numbers = random.Random(9)
        for stage, name in leads_of([duo(), coprime(), uneven()] + drawn(25, 16)):
            if longest(stage, name).forever:
                continue
            model = SlowTree(stage, name)
            for number in (None, 0, -2):
                for most in (1, 3):
                    tree = model.below(model.firsts(number), {}, lambda: numbers.randrange(most + 1))
                    bars = greatest_bar(tree)
                    self.assertIs(self.check(stage, name, tree, bars, number), True)
                    self.assertIs(self.check(stage, name, tree, bars - 1, number), False)

    def test_bars_of_hundreds_of_digits(self):
        stage = Stage([Track("a", clip("b", "1", 3, 1, [0]))], [lead("horn", "1"), lead("pipe", "3")])
        big = 3 * FAR
        for below, expected in ((big + 1, True), (big + 2, True), (big, False), (0, False), (1, True)):
            tree = (big, (("a", 0, "b", (below, ())),))
            self.assertIs(check_tree(stage, "horn", tree, limit=4 * FAR), expected)
            self.assertIs(check_tree(stage, "horn", tree, limit=big - 1), False)
            self.assertIs(check_tree(stage, "horn", tree, limit=4 * FAR, number=-FAR), expected)
        for below in (0, 1, 2, big):
            # This lead is locked out, so no bar below is open.
            self.assertIs(check_tree(stage, "pipe", (0, (("a", 0, "b", (below, ())),)), limit=FAR), False)

    def test_no_tree_shows_an_endless_wait(self):
        for tree in ((0, ()), (0, (("wall", 0, "brick", (1, ())),)), (3, ()), (0, (("wall", 0, "brick", (0, ())),))):
            for name in ("horn", "pipe", "bell"):
                self.assertIs(check_tree(single(), name, tree, limit=63), False)
                self.assertIs(check_tree(single(), name, tree, limit=63, number=4), False)

    def test_with_and_without_a_number(self):
        stage = Stage([Track("a", clip("b", "4", 4, 1, [0]))], [lead("horn", "2")])
        empty, full = (0, ()), (0, (("a", 0, "b", (1, ())),))
        for number, tree, expected in ((1, empty, True), (1, full, False), (0, empty, False), (0, full, True),
                                       (-2, full, True), (None, full, True), (None, empty, False)):
            self.assertIs(self.check(stage, "horn", tree, 1, number), expected)
        self.assertIs(check_tree(stage, "horn", full, limit=1, number=None), True)

    def test_a_chosen_track_is_not_chosen_again(self):
        stage = Stage([Track("a", clip("b", "1", 3, 1, [0]))], [lead("horn", "1")])
        tree = (0, (("a", 0, "b", (1, ())),))
        for _ in range(300):
            tree = (0, (("a", 0, "b", tree),))
            self.assertIs(check_tree(stage, "horn", tree, limit=9), False)

    def test_unknown_leads_come_first(self):
        for name in ("drums", "kick", "", "x"):
            for tree in ((0, ()), (-1, ()), (0, (("x", 0, "y", (0, ())),))):
                for limit in (3, -1):
                    call = lambda stage, lead, given: check_tree(stage, lead, given, limit=limit)
                    self.assert_raises_with(Unknown, {"name": name}, call, duo(), name, tree)

    def test_arguments_are_unchanged(self):
        stage = uneven()
        before = state(stage)
        tree = longest(stage, "horn").tree
        self.assertIs(check_tree(stage=stage, lead="horn", tree=tree, limit=64), True)
        self.assertEqual(state(stage), before)


if __name__ == "__main__":
    unittest.main()
