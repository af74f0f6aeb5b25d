"""What records of strings and histories tell."""

from partclones.errors import Missing
from partclones.histories.history import History
from partclones.parties.coding import STRING_END, TALLY_KEY, VERSION_KEY
from partclones.parties.tape import Tape
from partclones.webs.names import is_name

# Records tell numbers of any size; this is greater than all of them.
ANY = 1000000


def history_of(records):
    """Return the history that records store; other records may stand beside them."""
    if TALLY_KEY not in records:
        raise Missing(TALLY_KEY)
    rows = [_row(_tape_of(records[key])) for key in sorted(records) if _is_version_key(key)]
    return History.of((tuple(rows), _tape_of(records[TALLY_KEY]).several(_kind, ANY)))


def strings_of(record):
    """Return the list of the strings that a record stores."""
    # Behind the last end stands nothing.
    return "".join(record).split(STRING_END)[:-1]


def _tape_of(record):
    """Return a tape with the strings that a record stores."""
    return Tape(strings_of(record))


def _is_version_key(key):
    """Return True if a key is that of a version, otherwise False."""
    return key.startswith(VERSION_KEY) and is_name(key[len(VERSION_KEY):])


def _row(tape):
    """Return the row of facts that a tape tells next."""
    name = tape.taken()
    nearest = tape.several(_string, ANY)
    files = tape.several(_file, ANY)
    return name, nearest, files, tape.several(_file, ANY)


def _file(tape):
    """Return a pair of a path and what stands at its lines."""
    path = tape.taken()
    return path, tape.several(_string, ANY)


def _kind(tape):
    """Return a pair of a kind and its number."""
    kind = tape.several(_string, ANY)
    return kind, tape.bounded(0, ANY)


def _string(tape):
    """Return the next string."""
    return tape.taken()
