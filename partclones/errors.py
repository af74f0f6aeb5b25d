"""The errors that the package raises."""


class PartError(ValueError):
    """The base class of all errors of the package."""


class BadText(PartError):
    """The item at a place of a text is not a line."""

    def __init__(self, place):
        self.place = place


class BadEdit(PartError):
    """The item at a place of a list is not an edit, or does not fit."""

    def __init__(self, place):
        self.place = place


class BadTree(PartError):
    """A path of a tree, or the line at a place of its text, is wrong."""

    def __init__(self, path, place):
        self.path = path
        self.place = place


class Misfit(PartError):
    """The item at a place does not fit what it is applied to."""

    def __init__(self, place):
        self.place = place


class BadPut(PartError):
    """The item at a place is not a put."""

    def __init__(self, place):
        self.place = place


class TooLarge(PartError):
    """A tree becomes too large at a path."""

    def __init__(self, path):
        self.path = path


class BadName(PartError):
    """A string is not a name."""

    def __init__(self, name):
        self.name = name


class Taken(PartError):
    """A name is already the name of a version."""

    def __init__(self, name):
        self.name = name


class Unknown(PartError):
    """There is no version with a name."""

    def __init__(self, name):
        self.name = name


class Repeated(PartError):
    """A name occurs earlier in the same list."""

    def __init__(self, name):
        self.name = name


class NotClosed(PartError):
    """A set of versions lacks a merge base of two of its members."""

    def __init__(self, first, second, missing):
        self.first = first
        self.second = second
        self.missing = missing


class Needed(PartError):
    """A member is needed, so it cannot be left out."""

    def __init__(self, name):
        self.name = name


class BadRanking(PartError):
    """A ranking does not list each member exactly once."""


class TooMany(PartError):
    """There are more items than allowed."""


class BadQuestion(PartError):
    """A tuple has none of the forms of a question."""


class BadScript(PartError):
    """The command or line at a place does not belong to a script."""

    def __init__(self, place):
        self.place = place


class NothingToUndo(PartError):
    """There is no step that can be undone."""


class NothingToRedo(PartError):
    """There is no step that can be redone."""


class UnlikeNames(PartError):
    """Two histories have different names of versions."""


class BadSize(PartError):
    """An integer is not an allowed size."""

    def __init__(self, value):
        self.value = value


class BadCell(PartError):
    """A disk has no cell with a number."""

    def __init__(self, at):
        self.at = at


class BadItems(PartError):
    """A cell cannot hold these strings."""


class BadFuse(PartError):
    """An integer is not an allowed fuse."""

    def __init__(self, value):
        self.value = value


class BadMask(PartError):
    """An integer is not an allowed mask."""

    def __init__(self, value):
        self.value = value


class PowerCut(PartError):
    """A disk has lost power."""


class Broken(PartError):
    """A disk does not hold what is looked for."""


class Missing(PartError):
    """There is no record with a key."""

    def __init__(self, key):
        self.key = key


class BadRecord(PartError):
    """A key, or the record that goes with it, cannot be stored."""

    def __init__(self, key):
        self.key = key


class NoRoom(PartError):
    """A disk has fewer free cells than a commit would take."""

    def __init__(self, needed):
        self.needed = needed


class BadLetter(PartError):
    """The string at a place does not continue the written form of a letter."""

    def __init__(self, place):
        self.place = place


class BadMark(PartError):
    """A string is not the name of a mark."""

    def __init__(self, name):
        self.name = name


class BadParty(PartError):
    """There is no party with a name."""

    def __init__(self, name):
        self.name = name


class NoLetter(PartError):
    """No letter with a serial number is on its way."""

    def __init__(self, serial):
        self.serial = serial
