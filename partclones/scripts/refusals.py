"""The words that tell why something was refused."""

from partclones.errors import BadMark, BadName, BadParty, BadPut, BadQuestion, BadTree
from partclones.errors import NoLetter, Repeated, Taken, TooLarge, TooMany, Unknown


def outcome(action, *parts):
    """Return a pair: what the action gives and None, or None and the word for the error that it raises."""
    try:
        return action(*parts), None
    except BadName:
        word = "name"
    except Taken:
        word = "taken"
    except Unknown:
        word = "unknown"
    except Repeated:
        word = "repeated"
    except BadPut:
        word = "put"
    except BadTree:
        word = "tree"
    except TooLarge:
        word = "large"
    except BadQuestion:
        word = "question"
    except BadParty:
        word = "who"
    except NoLetter:
        word = "serial"
    except BadMark:
        word = "mark"
    except TooMany:
        word = "many"
    return None, word
