"""Reading letters."""

from partclones.parties.letters import ANSWER, CUT, NO_BASE, PUT, REQUEST
from partclones.parties.tape import Tape
from partclones.texts.lines import MOST_LINES, is_line
from partclones.trees.paths import is_path
from partclones.webs.names import is_name

PARTY_LETTERS = ("a", "b", "c", "d", "e", "f", "g", "h")
HIGHEST_NUMBER = 1000000000
# The bounds of the numbers of members: in general, and of what a pull asks for.
MANY = 200
FEW = 8
MOST_FORGOTTEN = 60


def read_letter(strings):
    """Return the letter with this written form; raise BadLetter at the first string that is wrong."""
    tape = Tape(strings)
    word = tape.tested(_is_letter_word)
    clone = tape.tested(is_party_letter)
    number = tape.bounded(1, HIGHEST_NUMBER)
    parts = _request_parts(tape) if word == REQUEST else _answer_parts(tape)
    tape.finish()
    return (word, clone, number, *parts)


def read_made(tape):
    """Return the made versions that a tape tells next."""
    return tape.several(_made, MANY)


def is_party_letter(value):
    """Return True if the string is the letter of a clone, otherwise False."""
    return value in PARTY_LETTERS


def _request_parts(tape):
    """Return the parts of a request behind its number."""
    lot = tape.several(_name, MANY)
    made = read_made(tape)
    want = tape.several(_name, FEW)
    moves = tape.several(_pair, FEW)
    return lot, made, want, moves, tape.several(_name, FEW)


def _answer_parts(tape):
    """Return the parts of an answer behind its number."""
    rows = tape.several(_row, MANY)
    sent = tape.several(_sent, MANY)
    tally = tape.several(_kind, MANY)
    marks = tape.several(_pair, FEW)
    return rows, sent, tally, marks, tape.several(_name, FEW)


def _made(tape):
    """Return a made version with its parents and puts."""
    name = _name(tape)
    parents = tape.several(_name, MANY)
    return name, parents, tape.several(_put, MANY)


def _row(tape):
    """Return a pair of a name and its nearest versions."""
    name = _name(tape)
    return name, tape.several(_name, MANY)


def _sent(tape):
    """Return a sent version with its base, puts and origins."""
    name = _name(tape)
    base = tape.tested(_is_base)
    puts = tape.several(_put, MANY)
    return name, (None if base == NO_BASE else base), puts, tape.several(_origins, MANY)


def _put(tape):
    """Return a put."""
    path = tape.tested(is_path)
    if tape.tested(_is_put_word) == CUT:
        return path, None
    return path, tape.several(_line, MOST_LINES)


def _origins(tape):
    """Return a pair of a path and the origins of its lines."""
    path = tape.tested(is_path)
    return path, tape.several(_name, MANY)


def _kind(tape):
    """Return a pair of a kind and its number."""
    kind = tape.several(_name, MANY)
    return kind, tape.bounded(1, MOST_FORGOTTEN)


def _pair(tape):
    """Return a pair of a mark and a version."""
    mark = _name(tape)
    return mark, _name(tape)


def _name(tape):
    """Return a name."""
    return tape.tested(is_name)


def _line(tape):
    """Return a line."""
    return tape.tested(is_line)


def _is_letter_word(value):
    """Return True if the string is the first one of a letter."""
    return value in (REQUEST, ANSWER)


def _is_put_word(value):
    """Return True if the string tells what a put does with its path."""
    return value in (CUT, PUT)


def _is_base(value):
    """Return True if the string is a name or stands for no base."""
    return value == NO_BASE or is_name(value)
