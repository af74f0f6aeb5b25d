"""Records that store strings and histories."""

from partclones.parties.letters import file_strings, name_strings, tally_strings
from partclones.vault.disk import LONGEST_ITEM

# No name, path, line, word or number contains this sign.
STRING_END = ","
TALLY_KEY = "tally"
VERSION_KEY = "v."


def history_records(history):
    """Return a dict from keys to the records that store a history."""
    rows, tally = history.facts()
    records = {VERSION_KEY + row[0]: record_of(_row_strings(row)) for row in rows}
    records[TALLY_KEY] = record_of(tally_strings(tally))
    return records


def record_of(strings):
    """Return a record that stores a list of strings in few cells."""
    text = "".join([string + STRING_END for string in strings])
    return [text[start:start + LONGEST_ITEM] for start in range(0, len(text), LONGEST_ITEM)]


def _row_strings(row):
    """Return the strings that tell a row of facts."""
    name, nearest, files, origins = row
    return [name, *name_strings(nearest), *file_strings(files), *file_strings(origins)]
