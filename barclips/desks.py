"""Desks: live launchers of the clips and leads of a stage."""

from barclips.boards import first_board
from barclips.errors import BadNumber, NothingToUndo, Unknown
from barclips.settings import playing


class Desk:
    """A launcher that stands at the tick `now`; what happens at this tick has happened."""

    def __init__(self, stage, now=0):
        self._board = first_board(stage, now)
        self._events = []
        # For each deed the board before it, and the number of events before it.
        self._past = []

    @property
    def stage(self):
        """The stage, with recorded lengths."""
        return self._board.scene

    @property
    def now(self):
        """The tick at which the desk stands."""
        return self._board.tick

    @property
    def entries(self):
        """The list of the entries of the tracks."""
        return self._board.entered()

    @property
    def waiting(self):
        """The list of the waiting changes of the tracks, each None or a tuple (word, name, due)."""
        return [lane.change for lane in self._board.lanes]

    @property
    def holds(self):
        """The list of the holds of the leads, each None or a tuple (first bar, last bar)."""
        return [cue.held for cue in self._board.cues]

    @property
    def armed(self):
        """The list of the names of the armed tracks."""
        return [track.name for track, lane in zip(self.stage.tracks, self._board.lanes) if lane.ready]

    @property
    def sounding(self):
        """The list of the names of the clips that sound now, and then of the leads."""
        clips = [played[0] for played in self._playing() if played is not None]
        return clips + [
            lead.name for lead, cue in zip(self.stage.leads, self._board.cues) if cue.begun is not None
        ]

    def _playing(self):
        """Return the list of what the tracks play now."""
        return playing(self.stage, self.entries, self.now)

    def __iter__(self):
        return iter(self._events)

    def __contains__(self, x):
        return x in self.sounding

    def __getitem__(self, at):
        for track, played in zip(self.stage.tracks, self._playing()):
            if track.name == at:
                return played
        raise Unknown(at)

    def __setitem__(self, at, worth):
        track = self.stage.find_track(at)
        if worth is None:
            self.stop(at)
        else:
            # This refuses the clips of other tracks.
            track.clip_of(worth)
            self.press(worth)

    def __iadd__(self, other):
        self.advance(other)
        return self

    def _keep(self, board):
        """Go on with the board of a deed that raised no error, and return the events of the deed."""
        self._past.append((self._board, len(self._events)))
        self._board = board
        # A new list, because the old one may just be iterated over.
        self._events = self._events + board.told
        return list(board.told)

    def press(self, name):
        """Press a clip, and return the tick at which this is due."""
        board = self._board.copied()
        due = board.press(name)
        self._keep(board)
        return due

    def stop(self, name):
        """Stop a track, and return the tick at which this is due."""
        board = self._board.copied()
        due = board.stop(name)
        self._keep(board)
        return due

    def hold(self, name, patience=None):
        """Hold a lead at its bars after now, and return the tick of the first of them."""
        board = self._board.copied()
        first = board.hold(name, patience)
        self._keep(board)
        return first

    def drop(self, name):
        """End the hold of a lead."""
        board = self._board.copied()
        board.drop(name)
        self._keep(board)

    def arm(self, name):
        """Arm an empty track, so that its clip can be recorded."""
        board = self._board.copied()
        board.arm(name)
        self._keep(board)

    def advance(self, ticks):
        """Move on by so many ticks, and return the list of the events that this adds."""
        board = self._board.copied()
        board.advance(ticks)
        return self._keep(board)

    def go_to(self, tick):
        """Move on to this tick, and return the list of the events that this adds."""
        if tick < self.now:
            raise BadNumber(tick)
        return self.advance(tick - self.now)

    def attempt(self, deeds):
        """Carry out a list of tuples as one deed, and return the list of all events that they add."""
        board = self._board.copied()
        for deed in deeds:
            board.do(deed)
        return self._keep(board)

    def undo(self):
        """Take back the last deed that was not taken back yet."""
        if len(self._past) == 0:
            raise NothingToUndo()
        self._board, many = self._past.pop()
        self._events = self._events[:many]
