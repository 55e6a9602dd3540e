"""Clips and leads, and what they have in common."""

from barclips.errors import BadName, BadNumber, Twice
from barclips.names import first_twice, is_name


class Sound:
    """What begins at a tick of its launch grid: a clip or a lead."""

    def __init__(self, name, grid):
        if not is_name(name):
            raise BadName(name)
        self.name = name
        self.grid = grid

    def words(self):
        """Return the words with which a line of a text describes it."""
        return [self.name, str(self.grid)]


def check_guards(guards, length):
    """Refuse the first guard that is no step, or not greater than the guard before it."""
    before = -1
    for guard in guards:
        if guard <= before or (length is not None and guard >= length):
            raise BadNumber(guard)
        before = guard


class Clip(Sound):
    """A sound of several rounds of `length` ticks; the length of an empty clip is None."""

    ROUNDS = 4

    def __init__(self, name, *, grid, length, rounds=1, guards=()):
        super().__init__(name, grid)
        if length is not None and length < 1:
            raise BadNumber(length)
        most = 1 if length is None else Clip.ROUNDS
        if rounds < 1 or rounds > most:
            raise BadNumber(rounds)
        check_guards(guards, length)
        self.length = length
        self.rounds = rounds
        self.guards = tuple(guards)

    @property
    def span(self):
        """The number of ticks of all rounds, 0 for an empty clip."""
        return 0 if self.length is None else self.rounds * self.length

    def words(self):
        """Return the words with which a line of a text describes it."""
        told = super().words() + ["empty" if self.length is None else str(self.length)]
        if self.rounds != 1:
            told = told + ["rounds", str(self.rounds)]
        if len(self.guards) > 0:
            told = told + ["guards"] + [str(guard) for guard in self.guards]
        return told


class Lead(Sound):
    """A sound that begins at an open bar and then halts the tracks of its stops."""

    PATIENCE = 64

    def __init__(self, name, *, grid, length, stops=()):
        super().__init__(name, grid)
        if length < 1:
            raise BadNumber(length)
        stop = first_twice(stops)
        if stop is not None:
            raise Twice(stop)
        self.length = length
        self.stops = tuple(stops)

    def words(self):
        """Return the words with which a line of a text describes it."""
        told = super().words() + [str(self.length)]
        if len(self.stops) > 0:
            told = told + ["stops"] + list(self.stops)
        return told
