"""Grids: the ticks offset + step * n for all integers n."""

from math import gcd

from barclips.digits import is_number
from barclips.errors import Apart, BadNumber, BadWord, OffGrid

MOST_PARTS = 64


def inverse(number, modulus):
    """Return the x from 0 to modulus - 1 for which number * x leaves the remainder of 1.

    The number and the modulus have no common divisor but 1.
    """
    left, right = modulus, number % modulus
    # The number times left_times (right_times) always leaves the remainder of left (right).
    left_times, right_times = 0, 1
    while right > 0:
        times = left // right
        left, right = right, left - times * right
        left_times, right_times = right_times, left_times - times * right_times
    return left_times % modulus


class Grid:
    """The ticks that leave the remainder `offset` after division by `step`."""

    def __init__(self, step, offset=0):
        if step < 1:
            raise BadNumber(step)
        self.step = step
        self.offset = offset % step

    def __contains__(self, x):
        return x % self.step == self.offset

    def tick_of(self, number):
        """Return the tick that has this number."""
        return self.offset + self.step * number

    def number_of(self, tick):
        """Return the number of a tick of the grid."""
        if tick not in self:
            raise OffGrid(tick)
        return (tick - self.offset) // self.step

    def at_or_after(self, tick):
        """Return the nearest tick of the grid that is not before this tick."""
        return tick + (self.offset - tick) % self.step

    def at_or_before(self, tick):
        """Return the nearest tick of the grid that is not after this tick."""
        return tick - (tick - self.offset) % self.step

    def __rfloordiv__(self, other):
        return (other - self.offset) // self.step

    def __rmod__(self, other):
        return (other - self.offset) % self.step

    def between(self, low, high):
        """Return how many ticks t of the grid have low <= t < high."""
        if high <= low:
            return 0
        return (high - 1) // self - (low - 1) // self

    def __add__(self, other):
        return Grid(self.step, self.offset + other)

    def __radd__(self, other):
        return self + other

    def __sub__(self, other):
        return Grid(self.step, self.offset - other)

    def __mul__(self, other):
        if other < 1:
            raise BadNumber(other)
        return Grid(self.step * other, self.offset)

    def __rmul__(self, other):
        return self * other

    def __floordiv__(self, other):
        if other < 1 or other > MOST_PARTS:
            raise BadNumber(other)
        return [Grid(self.step * other, self.tick_of(index)) for index in range(other)]

    def __and__(self, other):
        both = Grid.common(self, other)
        if both is None:
            raise Apart(self, other)
        return both

    @staticmethod
    def common(first, second):
        """Return the grid of the ticks on both grids, or None if there is none."""
        divisor = gcd(first.step, second.step)
        distance = second.offset - first.offset
        if distance % divisor != 0:
            return None
        # A tick of the first grid is on the second exactly if its number leaves a certain
        # remainder after division by `cycle`.
        cycle = second.step // divisor
        number = distance // divisor * inverse(first.step // divisor, cycle) % cycle
        return Grid(first.step * cycle, first.tick_of(number))

    def within(self, second):
        """Tell whether every tick of this grid is on the second one."""
        return self.step % second.step == 0 and self.offset in second

    def __eq__(self, other):
        return isinstance(other, Grid) and self.step == other.step and self.offset == other.offset

    def __str__(self):
        if self.offset == 0:
            return str(self.step)
        return f"{self.step}+{self.offset}"

    @classmethod
    def read(cls, word):
        """Return the grid that has this word."""
        step, plus, offset = word.partition("+")
        if plus == "":
            offset = "0"
        if not is_number(step) or not is_number(offset) or step == "0":
            raise BadWord(word)
        grid = cls(int(step), int(offset))
        # So an offset that is 0, or not less than the step, is refused as well.
        if str(grid) != word:
            raise BadWord(word)
        return grid
