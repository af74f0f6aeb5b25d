"""The judge of worlds."""

from partclones.histories.core import core
from partclones.scripts.run import run


def takes_worlds(history, names, first, second, commands):
    """Return True if the judge takes two worlds with commands for a list of versions, otherwise False."""
    # This also checks the list, ahead of everything.
    core(history, names)
    if second.facts() != history.facts():
        return False
    if not all([name in world for world in [first, second] for name in names]):
        return False
    if core(first, names) != core(second, names) or not _stay_within(names, commands):
        return False
    answers = [run(world, commands)[1] for world in [first, second]]
    if any([told[0] == "refused" for told in [*answers[0], *answers[1]]]):
        return False
    return answers[0] != answers[1]


def _stay_within(names, commands):
    """Return True if no command is a keep or names a version that is neither listed nor made before."""
    there = list(names)
    for command in commands:
        if command[0] == "keep" or not all([name in there for name in _named(command)]):
            return False
        if command[0] != "ask":
            there.append(command[1])
    return True


def _named(command):
    """Return the list of the versions that a command names, but for the new version itself."""
    word, *parts = command
    if word == "commit":
        return list(parts[1])
    if word == "ask":
        return list(parts[0][1:])
    return parts[1:]
