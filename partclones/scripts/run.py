"""Running scripts."""

from partclones.scripts.step import step


def run(history, commands):
    """Return a new history as it is at the end of a script, and the list of the answers."""
    now = history.copied()
    answers = []
    for command in commands:
        now, told = step(now, command)
        answers.append(told)
    return now, answers
