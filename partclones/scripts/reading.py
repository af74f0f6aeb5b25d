"""Reading scripts."""

from partclones.errors import BadScript
from partclones.scripts.writing import can_be_written, command_lines
from partclones.texts.lines import MOST_LINES, is_line
from partclones.trees.paths import is_path


def read_script(lines):
    """Return the script with this written form; raise BadScript at the first line that is wrong."""
    commands = []
    for place, line in enumerate(lines):
        # A line of a put belongs to the last command, which is made anew with it.
        if line.startswith(": ") or line.startswith("cut ") or line.startswith("put "):
            command = _carried_on(commands.pop(), line) if commands else None
        else:
            command = _begun(line)
        if command is None:
            raise BadScript(place)
        commands.append(command)
    return commands


def _begun(line):
    """Return the command with this first line, or None if there is none."""
    command = _guessed(line.split(" "))
    # Words that stand between the names are not looked at before; written again, the line shows them.
    if command is None or not can_be_written(command) or command_lines(command) != [line]:
        return None
    return command


def _guessed(words):
    """Return the only command whose first line may consist of these words, or None."""
    if words[0] == "commit" and len(words) > 1:
        return "commit", words[1], tuple(words[3:]), ()
    if words[0] == "merge" and len(words) == 5:
        return "merge", words[1], words[3], words[4]
    if words[0] == "pick" and len(words) == 8:
        return "pick", words[1], words[3], words[5], words[7]
    if words[0] in ("keep", "ask"):
        return words[0], tuple(words[1:])
    return None


def _carried_on(command, line):
    """Return the command with one more line of a put, or None if the line cannot follow it."""
    if command[0] != "commit":
        return None
    _, name, parents, puts = command
    word, _, rest = line.partition(" ")
    if word == ":":
        more = _with_line(puts, rest)
    else:
        more = _with_put(puts, rest, None if word == "cut" else ())
    return None if more is None else ("commit", name, parents, more)


def _with_put(puts, path, lines):
    """Return the puts with one more put, or None if there cannot be one with this path."""
    if not is_path(path) or path in [earlier for earlier, _ in puts]:
        return None
    return *puts, (path, lines)


def _with_line(puts, line):
    """Return the puts with one more line in the text of the last one, or None if it cannot stand there."""
    if not puts or not is_line(line):
        return None
    path, lines = puts[-1]
    if lines is None or len(lines) == MOST_LINES:
        return None
    return *puts[:-1], (path, (*lines, line))
