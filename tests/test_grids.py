"""Points 2 to 7: grids."""

import unittest
from math import gcd, lcm

from barclips.errors import Apart, BadNumber, BadWord, OffGrid
from barclips.grids import Grid
from tests.helpers import FAR, NEAR, GridTests, holds, pairs

SHAPES = [
    (1, 0), (1, 5), (2, 0), (2, -1), (3, 7), (8, 3), (8, -3), (12, 12), (60, -1), (64, 63),
    (FAR, 0), (FAR, -1), (FAR - 1, FAR), (FAR + 1, -FAR), (FAR, FAR // 2), (7, FAR), (7, -FAR),
]
GRIDS = [Grid(step, offset) for step, offset in SHAPES]
# Not all ticks of grids with long steps can be tried, but those that matter lie here.
TICKS = sorted({near + by for near in NEAR for by in (-9, -1, 0, 1, 10)})


class MakingTests(GridTests):
    def test_offset_is_the_remainder(self):
        for step, offset in SHAPES:
            with self.subTest(step=step, offset=offset):
                self.assert_grid(Grid(step, offset), step, offset % step)
        self.assert_grid(Grid(8, 3), 8, 3)
        self.assert_grid(Grid(8, 8), 8, 0)
        self.assert_grid(Grid(8, -3), 8, 5)
        self.assert_grid(Grid(1, -FAR), 1, 0)
        self.assert_grid(Grid(FAR, -1), FAR, FAR - 1)

    def test_offset_may_be_left_out(self):
        for step in (1, 2, 8, FAR - 1, FAR, FAR + 1):
            self.assert_grid(Grid(step), step, 0)

    def test_arguments_have_their_names(self):
        self.assert_grid(Grid(step=8, offset=11), 8, 3)
        self.assert_grid(Grid(offset=-1, step=8), 8, 7)

    def test_steps_below_one_are_refused(self):
        for step in (0, -1, -2, -8, -FAR):
            for offset in (0, 3, -3, FAR):
                self.assert_raises_with(BadNumber, {"value": step}, Grid, step, offset)
            self.assert_raises_with(BadNumber, {"value": step}, Grid, step)


class TickTests(GridTests):
    def test_in(self):
        for grid in GRIDS:
            for tick in TICKS:
                self.assertIs(tick in grid, holds(grid, tick))
                self.assertIs(tick not in grid, not holds(grid, tick))
        self.assertIs(3 in Grid(8, 3), True)
        self.assertIs(-5 in Grid(8, 3), True)
        self.assertIs(4 in Grid(8, 3), False)
        self.assertIs(2 in Grid(8, 3), False)
        self.assertIs(-3 in Grid(8, 3), False)

    def test_tick_of_and_number_of(self):
        for grid in GRIDS:
            for number in TICKS:
                tick = grid.tick_of(number)
                self.assertEqual(tick, grid.offset + grid.step * number)
                self.assertEqual(grid.number_of(tick), number)
        self.assertEqual(Grid(8, -5).tick_of(0), 3)
        self.assertEqual(Grid(8, 3).tick_of(number=-1), -5)
        self.assertEqual(Grid(8, 3).number_of(tick=-5), -1)

    def test_number_of_a_tick_beside_the_grid(self):
        for grid in GRIDS:
            for tick in TICKS:
                if not holds(grid, tick):
                    self.assert_raises_with(OffGrid, {"tick": tick}, grid.number_of, tick)
        self.assert_raises_with(OffGrid, {"tick": 4}, Grid(8, 3).number_of, 4)

    def test_number_of_a_tick_that_python_cannot_write(self):
        grid = Grid(FAR)
        for _ in range(12):
            grid = grid * FAR
        tick = grid.tick_of(3)
        self.assertEqual(grid.number_of(tick), 3)
        self.assert_raises_with(OffGrid, {"tick": tick + 1}, grid.number_of, tick + 1)

    def test_nearest_ticks(self):
        for grid in GRIDS:
            for tick in TICKS:
                after = grid.at_or_after(tick)
                before = grid.at_or_before(tick)
                self.assertTrue(holds(grid, after) and holds(grid, before))
                self.assertTrue(tick <= after < tick + grid.step)
                self.assertTrue(tick - grid.step < before <= tick)
        grid = Grid(8, 3)
        self.assertEqual([grid.at_or_after(tick=tick) for tick in (-6, -5, -4, 2, 3, 4)], [-5, -5, 3, 3, 3, 11])
        self.assertEqual([grid.at_or_before(tick=tick) for tick in (-6, -5, -4, 2, 3, 4)], [-13, -5, -5, -5, 3, 3])

    def test_division_of_a_tick(self):
        for grid in GRIDS:
            for tick in TICKS:
                number, over = tick // grid, tick % grid
                self.assertEqual(grid.offset + grid.step * number + over, tick)
                self.assertTrue(0 <= over < grid.step)
        grid = Grid(8, 3)
        self.assertEqual([tick // grid for tick in (-6, -5, 2, 3, 10, 11, 17)], [-2, -1, -1, 0, 0, 1, 1])
        self.assertEqual([tick % grid for tick in (-6, -5, 2, 3, 10, 11, 17)], [7, 0, 7, 0, 7, 0, 6])

    def test_between_counts_the_ticks(self):
        for grid in GRIDS:
            for low in range(-20, 21):
                for high in range(low, 30):
                    count = sum(holds(grid, tick) for tick in range(low, high))
                    self.assertEqual(grid.between(low, high), count)

    def test_between_without_a_stretch(self):
        for grid in GRIDS:
            for tick in TICKS:
                for high in (tick, tick - 1, tick - 100, tick - FAR, -2 * FAR):
                    self.assertEqual(grid.between(tick, high), 0)

    def test_between_far_ends(self):
        for grid in GRIDS:
            for low, count in ((-FAR, 5), (FAR - 3, FAR), (-2, FAR + 1), (17, 10**60)):
                for first in (grid.offset + grid.step * low, grid.offset + grid.step * low - grid.step + 1):
                    last = grid.offset + grid.step * (low + count)
                    self.assertEqual(grid.between(first, last), count)
                    self.assertEqual(grid.between(first, last + 1), count + 1)
                    self.assertEqual(grid.between(low=first, high=last - grid.step + 1), count)
        self.assertEqual(Grid(1).between(-FAR, FAR), 2 * FAR)

    def test_questions_change_nothing(self):
        for grid in GRIDS:
            before = (grid.step, grid.offset)
            grid.tick_of(5), grid.at_or_after(5), grid.at_or_before(5), 5 // grid, 5 % grid
            grid.between(-5, 5), 5 in grid, str(grid), grid == Grid(5), grid.within(Grid(5))
            grid + 5, 5 + grid, grid - 5, grid * 5, 5 * grid, grid // 5, grid & grid
            Grid.common(grid, Grid(5))
            self.assertEqual((grid.step, grid.offset), before)


class NewGridTests(GridTests):
    def test_moves(self):
        for grid in GRIDS:
            for ticks in TICKS:
                self.assert_grid(grid + ticks, grid.step, (grid.offset + ticks) % grid.step)
                self.assert_grid(ticks + grid, grid.step, (grid.offset + ticks) % grid.step)
                self.assert_grid(grid - ticks, grid.step, (grid.offset - ticks) % grid.step)
        self.assert_grid(Grid(8, 3) + 6, 8, 1)
        self.assert_grid(-4 + Grid(8, 3), 8, 7)
        self.assert_grid(Grid(8, 3) - 4, 8, 7)
        self.assert_grid(Grid(8, 3) - -4, 8, 7)

    def test_factors(self):
        for grid in GRIDS:
            for factor in (1, 2, 3, 64, 65, 1000, FAR - 1, FAR):
                self.assert_grid(grid * factor, grid.step * factor, grid.offset)
                self.assert_grid(factor * grid, grid.step * factor, grid.offset)
        self.assert_grid(Grid(8, 11) * 3, 24, 3)

    def test_factors_below_one_are_refused(self):
        for grid in GRIDS:
            for factor in (0, -1, -2, -FAR):
                self.assert_raises_with(BadNumber, {"value": factor}, lambda a, b: a * b, grid, factor)
                self.assert_raises_with(BadNumber, {"value": factor}, lambda a, b: b * a, grid, factor)

    def test_parts(self):
        for grid in GRIDS:
            for count in (1, 2, 3, 5, 63, 64):
                parts = grid // count
                self.assertIs(type(parts), list)
                self.assertEqual(len(parts), count)
                for index, part in enumerate(parts):
                    self.assert_grid(part, grid.step * count, grid.offset + grid.step * index)
        self.assertEqual(pairs(Grid(8, 3) // 3), [(24, 3), (24, 11), (24, 19)])

    def test_parts_have_the_numbers_with_their_remainder(self):
        grid = Grid(5, 2)
        for index, part in enumerate(grid // 4):
            for number in range(-20, 20):
                self.assertIs(5 * number + 2 in part, number % 4 == index)

    def test_parts_are_a_new_list(self):
        grid = Grid(8, 3)
        first = grid // 4
        second = grid // 4
        self.assertIsNot(first, second)
        first.clear()
        self.assertEqual(pairs(second), pairs(grid // 4))
        self.assertEqual(len(second), 4)

    def test_too_many_or_too_few_parts_are_refused(self):
        for grid in GRIDS:
            for count in (0, -1, -64, -FAR, 65, 66, 1000, FAR):
                self.assert_raises_with(BadNumber, {"value": count}, lambda a, b: a // b, grid, count)


class CommonTests(GridTests):
    def assert_common(self, first, second):
        """Find a common tick by the definition, from the ticks of the first grid."""
        cycle = second.step // gcd(first.step, second.step)
        ticks = [first.offset + first.step * number for number in range(cycle)]
        both = [tick for tick in ticks if holds(second, tick)]
        if both:
            self.assert_grid(first & second, lcm(first.step, second.step), both[0])
            self.assert_grid(Grid.common(first, second), lcm(first.step, second.step), both[0])
        else:
            self.assertIsNone(Grid.common(first, second))
            self.assert_raises_with(
                Apart, {"first": first, "second": second}, lambda a, b: a & b, first, second
            )

    def test_small_steps(self):
        shapes = [(step, offset) for step in (1, 2, 3, 4, 6, 8, 9, 12, 25, 30) for offset in range(min(step, 7))]
        grids = [Grid(*shape) for shape in shapes]
        for first in grids:
            for second in grids:
                self.assert_common(first, second)
        for offset in range(30):
            self.assert_common(Grid(30, offset), Grid(42, 5))
            self.assert_common(Grid(42, 5), Grid(30, offset))

    def test_long_steps_without_a_common_factor(self):
        first, second = Grid(FAR, 123), Grid(FAR + 1, FAR - 77)
        for one, other in ((first, second), (second, first)):
            for both in (one & other, Grid.common(one, other)):
                self.assertEqual(both.step, FAR * (FAR + 1))
                self.assertTrue(0 <= both.offset < both.step)
                self.assertTrue(holds(first, both.offset) and holds(second, both.offset))

    def test_long_steps_with_a_common_factor(self):
        factor = 2**300 * 3**100
        one, other = factor * (10**200 + 1), factor * 10**200
        for offset, meets in ((5, True), (5 + factor * 10**150, True), (6, False), (5 + factor // 2, False)):
            first, second = Grid(one, 5), Grid(other, offset)
            if meets:
                for both in (first & second, second & first):
                    self.assertEqual(both.step, lcm(one, other))
                    self.assertTrue(0 <= both.offset < both.step)
                    self.assertTrue(holds(first, both.offset) and holds(second, both.offset))
            else:
                self.assertIsNone(Grid.common(first, second))
                self.assertIsNone(Grid.common(second, first))
                for one_grid, other_grid in ((first, second), (second, first)):
                    self.assert_raises_with(
                        Apart, {"first": one_grid, "second": other_grid}, lambda a, b: a & b, one_grid, other_grid
                    )

    def test_a_long_and_a_short_step(self):
        for offset in range(6):
            self.assert_grid(Grid(FAR) & Grid(1, offset), FAR, 0)
            both = Grid.common(Grid(6, offset), Grid(6 * FAR, 4))
            if offset == 4:
                self.assert_grid(both, 6 * FAR, 4)
            else:
                self.assertIsNone(both)

    def test_grids_that_the_program_returned(self):
        shared = 10**2000 // 7
        chain, step = Grid(FAR, shared), FAR
        for by in range(1, 6):
            step = lcm(step, FAR + by)
            chain = chain & Grid(FAR + by, shared)
            self.assert_grid(chain, step, shared % step)

    def test_a_grid_with_itself(self):
        for grid in GRIDS:
            self.assert_grid(grid & grid, grid.step, grid.offset)
            self.assert_grid(Grid.common(grid, grid), grid.step, grid.offset)

    def test_arguments_have_their_names(self):
        self.assert_grid(Grid.common(first=Grid(6, 1), second=Grid(4, 3)), 12, 7)
        self.assertIs(Grid(8, 3).within(second=Grid(4, 3)), True)

    def test_within(self):
        grids = [Grid(step, offset) for step in (1, 2, 3, 4, 6, 12) for offset in range(step)]
        for first in grids:
            for second in grids:
                inside = all(holds(second, first.offset + first.step * number) for number in range(12))
                self.assertIs(first.within(second), inside)
        for grid in GRIDS:
            self.assertIs(grid.within(grid), True)
            self.assertIs(grid.within(Grid(1)), True)
            self.assertIs((grid * 2).within(grid), True)
            self.assertIs(grid.within(grid * 2), False)
            self.assertIs((grid * 2 + 1).within(grid), grid.step == 1)

    def test_equality(self):
        for at, first in enumerate(GRIDS):
            same = Grid(first.step, first.offset - 3 * first.step)
            self.assertIs(first == same, True)
            self.assertIs(first != same, False)
            self.assertIs(first == first, True)
            self.assertIs(first != first, False)
            for second in GRIDS:
                equal = (first.step, first.offset) == (second.step, second.offset)
                self.assertIs(first == second, equal)
                self.assertIs(first != second, not equal)
        self.assertIs(Grid(8, 3) == Grid(8, 4), False)
        self.assertIs(Grid(8, 3) == Grid(16, 3), False)
        self.assertIs(Grid(1, 1) == Grid(1, 2), True)

    def test_a_grid_equals_nothing_else(self):
        for other in (None, 0, 8, "8+3", "", b"8+3", (8, 3), [8, 3], {}, True, object(), Grid, [Grid(8, 3)]):
            self.assertIs(Grid(8, 3) == other, False)
            self.assertIs(Grid(8, 3) != other, True)
            self.assertIs(other == Grid(8, 3), False)
            self.assertIs(other != Grid(8, 3), True)
        twin = Lookalike()
        self.assertIs(Grid(8, 3) == twin, False)
        self.assertIs(Grid(8, 3) != twin, True)


class Lookalike:
    step = 8
    offset = 3


class WordTests(GridTests):
    def test_words(self):
        self.assertEqual(str(Grid(8)), "8")
        self.assertEqual(str(Grid(8, 3)), "8+3")
        self.assertEqual(str(Grid(8, -1)), "8+7")
        self.assertEqual(str(Grid(8, 16)), "8")
        self.assertEqual(str(Grid(1, 5)), "1")
        self.assertEqual(str(Grid(10, 10**9 + 7)), "10+7")
        self.assertEqual(str(Grid(FAR, -1)), "1" + "0" * 399 + "+" + "9" * 399)
        self.assertEqual(str(Grid(10**3999, 5)), "1" + "0" * 3999 + "+5")

    def test_words_are_read(self):
        for word, step, offset in (
            ("8", 8, 0), ("8+3", 8, 3), ("1", 1, 0), ("10", 10, 0), ("2+1", 2, 1), ("100+10", 100, 10),
            ("9+8", 9, 8), ("64+63", 64, 63),
        ):
            self.assert_grid(Grid.read(word), step, offset)
            self.assertEqual(str(Grid.read(word=word)), word)

    def test_thirty_digits_are_read(self):
        nines = int("9" * 30)
        self.assert_grid(Grid.read("9" * 30), nines, 0)
        self.assert_grid(Grid.read("9" * 30 + "+" + "9" * 29 + "8"), nines, nines - 1)
        self.assert_grid(Grid.read("1" + "0" * 29 + "+1"), 10**29, 1)

    def test_more_digits_are_refused(self):
        for word in (
            "1" + "0" * 30, "9" * 31, "9" * 31 + "+1", "9" * 31 + "+" + "8" * 31, "9" * 30 + "+" + "1" * 31,
            "7+" + "1" * 31, "9" * 400, "9" * 5000, "9" * 5000 + "+3", "3+" + "9" * 5000, "0" * 5000,
            "9" * 9000 + "+" + "8" * 9000,
        ):
            self.assert_refused(word)

    def assert_refused(self, word):
        with self.subTest(word[:50]):
            self.assert_raises_with(BadWord, {"word": word}, Grid.read, word)

    def test_words_of_no_grid(self):
        for word in (
            "", "+", "++", "8+", "+3", "8++3", "8+3+", "+8+3", "8+3+1", "8+0", "8+8", "8+9", "8+11", "1+1", "1+0",
            "0", "0+0", "0+1", "00", "08", "08+3", "8+03", "8+00", "008", "-8", "-8+3", "8-3", "8+-3", "--8", "8.0",
            "8,3", "8_0", "1e3", "0x8", "a", "8a", "a8", "8+a", "8+3a", "x+y", "None", "(8)", "8*3", "8/3", "~", "!",
        ):
            self.assert_refused(word)

    def test_white_space_at_any_place_is_refused(self):
        for space in (" ", "\t", "\n", "  "):
            self.assert_refused(space)
            for word in ("8", "12", "8+3", "12+11"):
                for at in range(len(word) + 1):
                    self.assert_refused(word[:at] + space + word[at:])

    def test_every_other_character_is_refused(self):
        for code in range(32, 127):
            sign = chr(code)
            if not sign.isdigit():
                self.assert_refused(sign)
                self.assert_refused("8+3" + sign)
                self.assert_refused(sign + "8+3")
                if sign != "+":
                    self.assert_refused("8" + sign + "3")

    def test_digits_of_other_scripts_are_refused(self):
        for sign in ("\u0663", "\u00b2", "\uff18", "\u0968"):
            self.assert_refused(sign)
            self.assert_refused("8+" + sign)

    def test_short_words_are_read_exactly_if_they_are_words(self):
        words = {str(Grid(step, offset)) for step in range(1, 121) for offset in range(step)}
        for text in [""] + [str(step) for step in range(121)] + ["00", "01", "012"]:
            for rest in [""] + ["+" + str(offset) for offset in range(121)] + ["+", "+00", "+01", "+1+"]:
                if text + rest in words:
                    self.assertEqual(str(Grid.read(text + rest)), text + rest)
                else:
                    self.assert_raises_with(BadWord, {"word": text + rest}, Grid.read, text + rest)


if __name__ == "__main__":
    unittest.main()
