"""Questions and their answers."""

from partclones.errors import BadQuestion
from partclones.trees.changes import tree_changes
from partclones.trees.tree import files_of

# The number of names that each question has.
COUNTS = {"show": 1, "origins": 1, "under": 2, "bases": 2, "base": 2, "changes": 2, "reach": 1, "lead": 2}

def answer(history, question):
    """Return the answer to a question about a history."""
    if not is_question(question):
        raise BadQuestion()
    order = history.order()
    names = question[1:]
    for name in names:
        order.check_known(name)
    action = ACTIONS[question[0]]
    return action(history, *names)


def is_question(question):
    """Return True if the tuple of strings has one of the forms of a question, whatever its names are."""
    return len(question) > 0 and question[0] in COUNTS and len(question) == 1 + COUNTS[question[0]]


def _show(history, name):
    """Return the files of a version."""
    return files_of(history.tree(name))


def _origins(history, name):
    """Return the origins of a version, in the form of files."""
    return files_of(history.origins(name))


def _under(history, low, high):
    """Return whether a version is under another one."""
    return history.is_under(low, high)


def _bases(history, one, other):
    """Return the ascending tuple of the merge bases of two versions."""
    return tuple(history.bases(one, other))


def _base(history, one, other):
    """Return the files of the base tree of two versions."""
    return files_of(history.base(one, other))


def _changes(history, one, other):
    """Return the tuple of the changes from the tree of a version to that of another one."""
    return tuple(tree_changes(history.tree(one), history.tree(other)))


def _reach(history, name):
    """Return the reach of a version alone."""
    return history.reach([name])


def _lead(history, one, other):
    """Return the lead of a version over another one."""
    return history.lead(one, other)


ACTIONS = {
    "show": _show,
    "origins": _origins,
    "under": _under,
    "bases": _bases,
    "base": _base,
    "changes": _changes,
    "reach": _reach,
    "lead": _lead,
}
