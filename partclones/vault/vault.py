"""Vaults: records that are stored on a disk, all changes of a commit or none."""

from partclones.errors import BadRecord, Broken, Missing, NoRoom
from partclones.signs import WORD_SIGNS, is_decimal, made_of
from partclones.vault.chain import cells_taken, chain_cells, laid, read_chain
from partclones.vault.disk import LONGEST_ITEM
from partclones.vault.root import ROOT_CELLS, root_items, root_of

LONGEST_KEY = 20
MOST_STRINGS = 2000
# Where a fresh vault has its directory.
FIRST_PLACE = 2


class Vault:
    """The records of a disk."""

    def __init__(self, disk):
        """Make the vault that a disk holds."""
        self._disk = disk
        self._root = root_of(disk)
        place = self._root[2]
        self._directory = chain_cells(disk, place)
        # For each key the cells of its chain, and its record.
        self._chains = {}
        self._records = {}
        for key, first in _entries(read_chain(disk, place)):
            self._chains[key] = chain_cells(disk, first)
            self._records[key] = read_chain(disk, first)

    @staticmethod
    def fresh(disk):
        """Return the fresh vault on a disk whose cells all hold None."""
        _write_through(disk, laid([], [FIRST_PLACE]))
        _write_through(disk, [(ROOT_CELLS[0], root_items(0, FIRST_PLACE))])
        return Vault(disk)

    @staticmethod
    def opened(disk):
        """Return the vault that a disk holds."""
        return Vault(disk)

    def known(self):
        """Return the ascending list of the keys."""
        return sorted(self._records)

    def read(self, key):
        """Return the record with a key."""
        if key not in self._records:
            raise Missing(key)
        return list(self._records[key])

    def commit(self, changes):
        """Replace, add and remove records, all of them or none."""
        _check_changes(changes)
        news = {key: changes[key] for key in sorted(changes) if changes[key] != self._records.get(key)}
        if news:
            self._store(news)

    def used(self):
        """Return the ascending list of the numbers of the cells in use."""
        chained = [at for key in self._chains for at in self._chains[key]]
        return sorted(set([*ROOT_CELLS, *self._directory, *chained]))

    def free(self):
        """Return the number of the cells that are not in use."""
        return self._disk.cells - len(self.used())

    def _store(self, news):
        """Store records, and remove those for which news has None; all of them change something."""
        left = {key: self._records[key] for key in self._records if key not in news}
        added = {key: list(news[key]) for key in news if news[key] is not None}
        lists = [added[key] for key in added]
        # How long the list of the directory will be is known before its cells are.
        places = self._taken([*[len(strings) for strings in lists], 2 * (len(left) + len(added))])
        chains = {key: self._chains[key] for key in left}
        for key, cells in zip(added, places):
            chains[key] = cells
        lists.append([string for key in sorted(chains) for string in (key, str(chains[key][0]))])
        _write_through(self._disk, [cell for strings, cells in zip(lists, places) for cell in laid(strings, cells)])
        root = (1 - self._root[0], self._root[1] + 1, places[-1][0])
        _write_through(self._disk, [(root[0], root_items(root[1], root[2]))])
        self._root, self._directory, self._chains = root, places[-1], chains
        self._records = {**left, **added}

    def _taken(self, counts):
        """Return the list of the cells that chains of so many strings take; raise NoRoom if there are too few."""
        needed = sum([cells_taken(count) for count in counts])
        if self.free() < needed:
            raise NoRoom(needed)
        used = {at: True for at in self.used()}
        unused = [at for at in range(self._disk.cells) if at not in used]
        taken = []
        start = 0
        for count in counts:
            end = start + cells_taken(count)
            taken.append(unused[start:end])
            start = end
        return taken


def _entries(strings):
    """Return the pairs of a key and the first cell of its chain that the list of a directory tells."""
    numbers = strings[1::2]
    if len(strings) != 2 * len(numbers) or not all([is_decimal(number) for number in numbers]):
        raise Broken()
    return [(key, int(number)) for key, number in zip(strings[::2], numbers)]


def _write_through(disk, cells):
    """Write cells, pairs of a number and items, and flush the disk."""
    for at, items in cells:
        disk.write(at, items)
    disk.flush()


def _check_changes(changes):
    """Raise BadRecord at the first key, ascending, that is none or whose list is no record."""
    for key in sorted(changes):
        if not _is_key(key) or not _can_be_stored(changes[key]):
            raise BadRecord(key)


def _is_key(value):
    """Return True if the string is a key, otherwise False."""
    return 1 <= len(value) <= LONGEST_KEY and made_of(value, WORD_SIGNS + ".")


def _can_be_stored(strings):
    """Return True for None and for a list that is a record."""
    if strings is None:
        return True
    return len(strings) <= MOST_STRINGS and all([len(string) <= LONGEST_ITEM for string in strings])
