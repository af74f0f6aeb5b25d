"""The written form of scripts."""

from partclones.errors import BadScript
from partclones.histories.ask import is_question
from partclones.trees.puts import fault_in_puts
from partclones.webs.names import is_name


def script_lines(commands):
    """Return the written form of a script; raise BadScript at the first command that cannot be written."""
    lines = []
    for place, command in enumerate(commands):
        if not can_be_written(command):
            raise BadScript(place)
        lines.extend(command_lines(command))
    return lines


def can_be_written(command):
    """Return True if a command can be written, otherwise False."""
    word, *parts = command
    names = parts
    if word == "commit":
        name, parents, puts = parts
        if fault_in_puts(puts) is not None:
            return False
        names = [name, *parents]
    elif word == "keep":
        names = parts[0]
    elif word == "ask":
        if not is_question(parts[0]):
            return False
        names = parts[0][1:]
    return all([is_name(name) for name in names])


def command_lines(command):
    """Return the lines of a command that can be written."""
    word, *parts = command
    if word == "commit":
        name, parents, puts = parts
        words = [name, "on", *parents] if parents else [name]
        lines = [line for path, text in puts for line in _put_lines(path, text)]
        return [" ".join([word, *words]), *lines]
    if word == "merge":
        name, one, other = parts
        return [f"merge {name} of {one} {other}"]
    if word == "pick":
        name, base, change, onto = parts
        return [f"pick {name} from {base} to {change} on {onto}"]
    return [" ".join([word, *parts[0]])]


def _put_lines(path, text):
    """Return the lines of a put."""
    if text is None:
        return [f"cut {path}"]
    return [f"put {path}"] + [f": {line}" for line in text]
