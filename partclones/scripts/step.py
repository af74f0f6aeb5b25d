"""Doing one command."""

from partclones.closed.closure import closure
from partclones.histories.ask import answer
from partclones.histories.core import core
from partclones.histories.history import History
from partclones.histories.putting import commit_puts
from partclones.scripts.refusals import outcome


def step(history, command):
    """Return a new history on which a command is done, and the answer of the command."""
    now = history.copied()
    done, word = outcome(_done, now, command)
    # What raises an error changes nothing, so this is still a copy of the history.
    return (now, ("refused", word)) if done is None else done


def _done(history, command):
    """Do a command on a history, and return the history as it is then and the answer."""
    word, *parts = command
    action = ACTIONS[word]
    return action(history, *parts)


def _commit(history, name, parents, puts):
    """Commit a version."""
    commit_puts(history, name, list(parents), puts)
    return history, ("done",)


def _merge(history, name, one, other):
    """Merge two versions."""
    return history, ("merged", tuple(history.merge(name, one, other)))


def _pick(history, name, base, change, onto):
    """Make a pick."""
    return history, ("merged", tuple(history.pick(name, base, change, onto)))


def _keep(history, names):
    """Forget all versions outside of the closure of the names."""
    kept = closure(history.order(), list(names))
    return History.of(core(history, kept)), ("kept", tuple(kept))


def _ask(history, question):
    """Ask a question."""
    return history, ("answer", answer(history, question))


ACTIONS = {"commit": _commit, "merge": _merge, "pick": _pick, "keep": _keep, "ask": _ask}
