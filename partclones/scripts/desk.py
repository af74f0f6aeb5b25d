"""Desks: histories whose steps can be undone."""

from partclones.errors import NothingToRedo, NothingToUndo, TooMany
from partclones.histories.history import History
from partclones.scripts.step import step

DEEPEST = 4
MOST_MOVES = 200


class Trial:
    """A block at whose end a desk is again as it was at its beginning."""

    def __init__(self, desk):
        """Make the trial of a desk; the block begins later."""
        self._desk = desk
        self._history = None
        self._steps = ()
        self._undone = ()

    def __enter__(self):
        """Remember how the desk is, and give the desk itself."""
        self._history = self._desk._history
        self._steps = self._desk._steps
        self._undone = self._desk._undone
        return self._desk

    def __exit__(self, kind, value, trace):
        """Make the desk again as it was."""
        desk = self._desk
        desk._history = self._history
        desk._steps = self._steps
        desk._undone = self._undone


class Desk:
    """A history, the steps that were done on it, and the steps that were undone."""

    def __init__(self, history=None):
        """Make a desk with a copy of a history, or with a new one."""
        # None of these is changed, only replaced: so whoever keeps them keeps how the desk was.
        self._history = History() if history is None else history.copied()
        # Pairs of a command and the history before it.
        self._steps = ()
        # Pairs of a command and the history behind it, the last undone at the end.
        self._undone = ()

    def __call__(self, command):
        """Do a command and return its answer."""
        now, told = step(self._history, command)
        if told[0] not in ("refused", "answer"):
            self._steps = (*self._steps, (command, self._history))
            self._undone = ()
            self._history = now
        return told

    def undo(self):
        """Undo the last step and return its command."""
        if not self._steps:
            raise NothingToUndo()
        command, before = self._steps[-1]
        self._steps = self._steps[:-1]
        self._undone = (*self._undone, (command, self._history))
        self._history = before
        return command

    def redo(self):
        """Do the step again that was undone last, and return its command."""
        if not self._undone:
            raise NothingToRedo()
        command, behind = self._undone[-1]
        self._undone = self._undone[:-1]
        self._steps = (*self._steps, (command, self._history))
        self._history = behind
        return command

    def trial(self):
        """Return an object for a with statement at whose end the desk is as at its beginning."""
        return Trial(self)

    @property
    def depth(self):
        """The number of steps that can be undone."""
        return len(self._steps)

    def facts(self):
        """Return the facts of the history."""
        return self._history.facts()


def tried(desk, moves):
    """Do moves in a trial of a desk, and return the list of what they give."""
    _count(moves, 1)
    return _tried_list(desk, moves)


def _count(moves, depth):
    """Return the number of the moves in a list and in the lists within it; raise TooMany if it is too great."""
    # Depth comes first, so that a list that contains itself is refused.
    if depth > DEEPEST:
        raise TooMany()
    count = 0
    for move in moves:
        count += 1
        if isinstance(move, list):
            count += _count(move, depth + 1)
        if count > MOST_MOVES:
            raise TooMany()
    return count


def _tried_list(desk, moves):
    """Do moves in a trial of a desk, one after the other."""
    with desk.trial():
        return [_tried_move(desk, move) for move in moves]


def _tried_move(desk, move):
    """Do one move and return what it gives."""
    if isinstance(move, list):
        return _tried_list(desk, move)
    if move == ("undo",):
        return desk.undo()
    if move == ("redo",):
        return desk.redo()
    return desk(move)
