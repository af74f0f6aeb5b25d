"""The origins of lines."""

from partclones.texts.matching import matched


def line_origins(name, text, elders):
    """Return the origins of the lines of a text of a new version, one for each line."""
    found = [name] * len(text)
    # The first text that pairs a line decides, so it is looked at last.
    for elder, origins in reversed(elders):
        for i, j in matched(elder, text):
            found[j] = origins[i]
    return found
