"""The written form of letters."""

REQUEST = "request"
ANSWER = "answer"
NO_BASE = "-"
CUT = "cut"
PUT = "put"


def letter_strings(letter):
    """Return the written form of a letter, a list of strings."""
    word, clone, number, *parts = letter
    if word == REQUEST:
        lot, made, want, moves, back = parts
        written = [name_strings(lot), made_strings(made), name_strings(want), pair_strings(moves), name_strings(back)]
    else:
        rows, sent, tally, marks, refused = parts
        written = [_row_strings(rows), _sent_strings(sent), tally_strings(tally)]
        written.extend([pair_strings(marks), name_strings(refused)])
    return [word, clone, str(number), *[string for part in written for string in part]]


def listed(members):
    """Return the written form of a tuple whose members have these written forms."""
    return [str(len(members)), *[string for member in members for string in member]]


def name_strings(names):
    """Return the written form of a tuple of strings."""
    return [str(len(names)), *names]


def pair_strings(pairs):
    """Return the written form of a tuple of pairs of strings."""
    return listed([list(pair) for pair in pairs])


def made_strings(made):
    """Return the written form of made versions with their parents and puts."""
    return listed([[name, *name_strings(parents), *_put_strings(puts)] for name, parents, puts in made])


def file_strings(files):
    """Return the written form of files, or of origins in the same form."""
    return listed([[path, *name_strings(lines)] for path, lines in files])


def tally_strings(tally):
    """Return the written form of a tally."""
    return listed([[*name_strings(kind), str(number)] for kind, number in tally])


def _row_strings(rows):
    """Return the written form of the rows of an answer."""
    return listed([[name, *name_strings(nearest)] for name, nearest in rows])


def _sent_strings(sent):
    """Return the written form of the sent versions."""
    written = []
    for name, base, puts, origins in sent:
        written.append([name, NO_BASE if base is None else base, *_put_strings(puts), *file_strings(origins)])
    return listed(written)


def _put_strings(puts):
    """Return the written form of puts."""
    return listed([[path, CUT] if lines is None else [path, PUT, *name_strings(lines)] for path, lines in puts])
