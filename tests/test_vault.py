"""Points 53 to 57: vaults."""

import copy
import unittest

from partclones.errors import BadCell, BadRecord, Broken, Missing, NoRoom, PowerCut
from partclones.vault.chain import cells_for
from partclones.vault.disk import Disk
from partclones.vault.root import root_of
from partclones.vault.space import cells_needed
from partclones.vault.vault import Vault
from support import Chooser, spoil


class WatchedDisk(Disk):
    """A disk that lists its operations."""

    def __init__(self, cells):
        super().__init__(cells)
        self.told = []

    def write(self, at, items):
        super().write(at, items)
        self.told.append((at, items))

    def flush(self):
        super().flush()
        self.told.append("flush")


def words(count):
    return [f"s{number}" for number in range(count)]


def cells_of(disk):
    return [disk.read(at) for at in range(disk.cells)]


def records_of(vault):
    return {key: vault.read(key) for key in vault.known()}


class Case(unittest.TestCase):
    def setUp(self):
        self.disk = WatchedDisk(20)
        self.vault = Vault.fresh(self.disk)
        self.disk.told.clear()

    def operations(self):
        """The operations since the last call."""
        told = list(self.disk.told)
        self.disk.told.clear()
        return told

    def refused(self, error, call, *arguments):
        before = self.picture()
        with self.assertRaises(error) as caught:
            call(*arguments)
        self.assertEqual(self.picture(), before)
        return caught.exception

    def picture(self):
        told = len(self.disk.told)
        return told, cells_of(self.disk), records_of(self.vault), self.vault.used(), self.disk.fuse

    def opened(self):
        """The vault opened again; it is as the one that is there."""
        told = len(self.disk.told)
        vault = Vault.opened(self.disk)
        self.assertEqual(records_of(vault), records_of(self.vault))
        self.assertEqual((vault.used(), vault.free()), (self.vault.used(), self.vault.free()))
        self.assertEqual(len(self.disk.told), told)
        return vault


class FreshTest(Case):
    def test_a_fresh_vault(self):
        disk = WatchedDisk(4)
        vault = Vault.fresh(disk)
        self.assertIs(type(vault), Vault)
        self.assertEqual(disk.told, [(2, ("-",)), "flush", (0, ("root", "0", "2")), "flush"])
        self.assertEqual((vault.known(), vault.used(), vault.free()), ([], [0, 1, 2], 1))
        self.assertEqual(root_of(disk), (0, 0, 2))

    def test_it_keeps_the_very_disk(self):
        self.vault.commit({"a": ["x"]})
        self.assertEqual(self.disk.read(3), ("-", "x"))
        self.disk.fuse = 0
        self.assertRaises(PowerCut, self.vault.commit, {"a": ["y"]})

    def test_power_cuts(self):
        for fuse in range(4):
            disk = Disk(4)
            disk.fuse = fuse
            self.assertRaises(PowerCut, Vault.fresh, disk)
        disk = Disk(4)
        disk.fuse = 4
        Vault.fresh(disk)
        self.assertEqual(disk.fuse, 0)


class CommitTest(Case):
    def test_the_very_cells(self):
        self.assertIsNone(self.vault.commit({"b": words(8), "a": ["x"], "c.1": []}))
        self.assertEqual(self.operations(), [
            *[(3, ("-", "x")), (4, ("5", *words(7))), (5, ("-", "s7")), (6, ("-",))],
            (7, ("-", "a", "3", "b", "4", "c.1", "6")),
            *["flush", (1, ("root", "1", "7")), "flush"],
        ])
        self.assertEqual(self.vault.used(), [0, 1, 3, 4, 5, 6, 7])
        self.opened()
        # The directory of the fresh vault is free now, and is taken first.
        self.vault.commit({"b": words(1), "a": None, "d": words(7)})
        self.assertEqual(self.operations(), [
            *[(2, ("-", "s0")), (8, ("-", *words(7))), (9, ("-", "b", "2", "c.1", "6", "d", "8"))],
            *["flush", (0, ("root", "2", "9")), "flush"],
        ])
        self.assertEqual(self.vault.used(), [0, 1, 2, 6, 8, 9])
        self.opened()
        self.vault.commit({"e": ["y"], "d": None, "c.1": None, "b": None})
        self.assertEqual(self.operations(), [
            *[(3, ("-", "y")), (4, ("-", "e", "3")), "flush", (1, ("root", "3", "4")), "flush"],
        ])
        self.assertEqual(self.vault.used(), [0, 1, 3, 4])
        self.opened()

    def test_removals_alone(self):
        self.vault.commit({"a": ["x"], "b": ["y"]})
        self.operations()
        self.vault.commit({"a": None})
        self.assertEqual(self.operations(), [(2, ("-", "b", "4")), "flush", (0, ("root", "2", "2")), "flush"])
        self.vault.commit({"b": None})
        self.assertEqual(self.operations(), [(3, ("-",)), "flush", (1, ("root", "3", "3")), "flush"])
        self.assertEqual((self.vault.known(), self.vault.used()), ([], [0, 1, 3]))
        self.opened()

    def test_a_long_directory(self):
        self.vault.commit({f"k{number}": [] for number in range(4)})
        self.assertEqual(self.operations()[4:6], [
            (7, ("8", "k0", "3", "k1", "4", "k2", "5", "k3")), (8, ("-", "6")),
        ])
        self.opened()

    def test_entries_that_change_nothing(self):
        self.vault.commit({"a": words(3), "b": [], "c": ["z"]})
        self.operations()
        for changes in ({}, {"a": words(3)}, {"q": None}, {"b": [], "q": None, "a": words(3), "c": ["z"]}):
            self.disk.fuse = 0
            self.assertIsNone(self.vault.commit(changes))
            self.assertEqual(self.operations(), [])
        self.disk.fuse = None
        self.assertEqual(root_of(self.disk)[1], 1)
        self.vault.commit({"a": words(3), "b": ["x"], "q": None, "c": ["z"]})
        self.assertEqual(self.operations(), [
            *[(2, ("-", "x")), (7, ("-", "a", "3", "b", "2", "c", "5")), "flush", (0, ("root", "2", "7")), "flush"],
        ])

    def test_an_empty_record_is_a_record(self):
        self.vault.commit({"a": []})
        self.assertEqual((self.vault.known(), self.vault.read("a")), (["a"], []))
        self.vault.commit({"a": [""]})
        self.assertEqual(self.vault.read("a"), [""])

    def test_read(self):
        self.vault.commit({"a": ["x"], "b": words(30)})
        self.assertEqual((self.vault.read("a"), self.vault.read("b")), (["x"], words(30)))
        for key in ("c", "", "NO", "a" * 30):
            with self.assertRaises(Missing) as caught:
                self.vault.read(key)
            self.assertEqual(caught.exception.key, key)

    def test_keys(self):
        keys = ["a", ".", "0", "z.9", "a" * 20, "." * 20, "v.a1"]
        self.vault.commit({key: [key] for key in keys})
        self.assertEqual(self.vault.known(), sorted(keys))
        self.opened()
        for key in ("", "A", "a b", "a/b", "a-b", "a" * 21, "a,", "a_b", " ", "~"):
            for record in (["x"], None):
                self.assertEqual(self.refused(BadRecord, self.vault.commit, {"b": ["y"], key: record}).key, key)

    def test_known_keys_ascend(self):
        for key in ("c", "a", "d", "b"):
            self.vault.commit({key: [key]})
            self.assertEqual(self.vault.known(), sorted(self.vault.known()))
        self.vault.commit({"c": ["x"], "a": ["y"]})
        self.assertEqual(self.vault.known(), ["a", "b", "c", "d"])

    def test_records(self):
        disk = Disk(1000)
        vault = Vault.fresh(disk)
        vault.commit({"a": words(2000), "b": ["x" * 200] * 9, "c": ["", " ~"]})
        self.assertEqual(records_of(Vault.opened(disk)), {"a": words(2000), "b": ["x" * 200] * 9, "c": ["", " ~"]})
        for record in (words(2001), ["x" * 201], ["a"] * 8 + ["x" * 201], [""] * 2001):
            self.assertEqual(self.refused(BadRecord, self.vault.commit, {"k": record}).key, "k")

    def test_which_error_comes_first(self):
        bad = {"c": ["x" * 201], "B": [], "d": words(2001), "a": ["fine"]}
        self.disk.fuse = 0
        self.assertEqual(self.refused(BadRecord, self.vault.commit, bad).key, "B")
        del bad["B"]
        self.assertEqual(self.refused(BadRecord, self.vault.commit, bad).key, "c")
        bad["c"] = words(1900)
        self.assertEqual(self.refused(BadRecord, self.vault.commit, bad).key, "d")
        bad["d"] = None
        self.assertEqual(self.refused(NoRoom, self.vault.commit, bad).needed, 1 + 272 + 1)
        # Entries are checked before any is ignored.
        self.assertEqual(self.refused(BadRecord, self.vault.commit, {"NO": None}).key, "NO")

    def test_no_room(self):
        # Three cells are in use, so 17 are free.
        for fuse in (None, 0):
            self.disk.fuse = fuse
            self.assertEqual(self.refused(NoRoom, self.vault.commit, {"a": words(17 * 7)}).needed, 18)
            changes = {f"k{number}": [] for number in range(14)}
            self.assertEqual(self.refused(NoRoom, self.vault.commit, changes).needed, 18)
        self.disk.fuse = None
        self.vault.commit({"a": words(16 * 7)})
        self.assertEqual((self.vault.free(), self.vault.used()), (1, [0, 1, *range(3, 20)]))
        # What the commit would make free is not counted.
        self.operations()
        self.assertEqual(self.refused(NoRoom, self.vault.commit, {"a": []}).needed, 2)
        self.vault.commit({"a": None})
        self.assertEqual((self.vault.known(), self.vault.used()), ([], [0, 1, 2]))

    def test_no_room_counts_only_what_changes(self):
        self.vault.commit({"a": words(80)})
        self.assertEqual(self.vault.free(), 20 - 2 - 12 - 1)
        self.operations()
        error = self.refused(NoRoom, self.vault.commit, {"a": words(80), "b": words(31), "c": None})
        self.assertEqual(error.needed, 5 + 1)
        self.vault.commit({"a": words(80), "b": words(28)})
        self.opened()

    def test_more_records_than_a_directory_can_list(self):
        disk = Disk(4000)
        vault = Vault.fresh(disk)
        with self.assertRaises(NoRoom) as caught:
            vault.commit({f"k{number}": [] for number in range(5001)})
        self.assertEqual(caught.exception.needed, 5001 + 1429)

    def test_against_a_dict(self):
        chooser = Chooser(3)
        self.disk = WatchedDisk(60)
        self.vault, plain, count = Vault.fresh(self.disk), {}, 0
        self.operations()
        for _ in range(400):
            changes = {}
            for key in chooser.some_of(["a", "b.c", "d", "e9", "f"], 4):
                changes[key] = None if chooser.below(3) == 0 else words(chooser.below(30))
            news = {key: changes[key] for key in changes if changes[key] != plain.get(key)}
            after = {key: record for key, record in {**plain, **changes}.items() if record is not None}
            needed = sum(cells_for(len(record)) for record in news.values() if record is not None)
            needed += cells_for(2 * len(after))
            if news and needed > self.vault.free():
                self.assertEqual(self.refused(NoRoom, self.vault.commit, changes).needed, needed)
                continue
            free = [at for at in range(60) if at not in self.vault.used()]
            self.vault.commit(changes)
            told = self.operations()
            if news:
                count, plain = count + 1, after
                self.assertEqual([at for at, _ in told[:-3]], free[:needed])
                root = ("root", str(count), str(told[-3 - cells_for(2 * len(after))][0]))
                self.assertEqual(told[-3:], ["flush", (count % 2, root), "flush"])
            else:
                self.assertEqual(told, [])
            self.assertEqual(records_of(self.vault), plain)
            self.assertEqual(len(self.vault.used()), cells_needed(plain))
            self.assertEqual(self.vault.free(), 60 - len(self.vault.used()))
            self.opened()

    def test_nothing_is_held(self):
        record = ["x"]
        changes = {"a": record, "b": words(2), "c": None}
        before = copy.deepcopy(changes)
        self.vault.commit(changes)
        self.assertEqual(changes, before)
        spoil(changes)
        self.assertEqual(records_of(self.vault), {"a": ["x"], "b": words(2)})
        for call in (self.vault.known, self.vault.used, lambda: self.vault.read("b")):
            first = call()
            second = list(first)
            spoil(first)
            self.assertEqual(call(), second)
        self.opened()
        self.operations()
        self.vault.commit({"a": ["x"], "b": words(2)})
        self.assertEqual(self.operations(), [])


class OpenedTest(Case):
    def test_two_vaults_on_one_disk(self):
        self.vault.commit({"a": ["x"]})
        other = self.opened()
        other.commit({"b": words(9)})
        third = Vault.opened(self.disk)
        self.assertEqual(records_of(third), {"a": ["x"], "b": words(9)})
        third.commit({"a": None})
        self.assertEqual(records_of(Vault.opened(self.disk)), {"b": words(9)})

    def test_it_writes_nothing(self):
        self.vault.commit({"a": words(20)})
        self.disk.fuse = 0
        before = cells_of(self.disk)
        self.assertEqual(Vault.opened(self.disk).read("a"), words(20))
        self.assertEqual((cells_of(self.disk), self.disk.fuse, self.disk.queued), (before, 0, 0))

    def test_no_root(self):
        self.assertRaises(Broken, Vault.opened, Disk(4))
        disk = Disk(4)
        disk.write(0, ("root", "00", "2"))
        disk.write(2, ("-",))
        self.assertRaises(Broken, Vault.opened, disk)

    def spoilt(self, error, *cells):
        disk = Disk(20)
        for at in range(20):
            if self.disk.read(at) is not None:
                disk.write(at, self.disk.read(at))
        for at, items in cells:
            disk.write(at, items)
        disk.flush()
        with self.assertRaises(error) as caught:
            Vault.opened(disk)
        return caught.exception

    def test_broken_chains(self):
        self.vault.commit({"a": words(8)})
        self.assertEqual(root_of(self.disk), (1, 1, 5))
        self.spoilt(Broken, (5, ()))
        self.spoilt(Broken, (5, ("5", "a", "3")))
        self.spoilt(Broken, (3, ("20", *words(7))))
        self.spoilt(Broken, (4, ("04", "s7")))
        self.spoilt(Broken, (3, ()))
        self.spoilt(Broken, (1, ("root", "2", "19")))
        self.assertEqual(self.spoilt(BadCell, (1, ("root", "2", "20"))).at, 20)
        self.assertEqual(self.spoilt(BadCell, (5, ("-", "a", "77"))).at, 77)
        # A directory that is none: a key without a number, or with something else.
        for items in (("-", "a"), ("-", "a", "3", "b"), ("-", "a", "x"), ("-", "a", "03"), ("-", "a", "")):
            self.spoilt(Broken, (5, items))
        # The root that is not in force is not looked at.
        disk = Disk(20)
        for at, items in enumerate(cells_of(self.disk)):
            if items is not None:
                disk.write(at, items)
        disk.write(0, ("root", "0", "99"))
        disk.flush()
        self.assertEqual(records_of(Vault.opened(disk)), {"a": words(8)})


class PowerTest(unittest.TestCase):
    def made(self):
        disk = Disk(24)
        vault = Vault.fresh(disk)
        vault.commit({"a": words(9), "b": ["x"], "c": []})
        vault.commit({"a": words(8), "d": ["y"]})
        return disk, vault

    def test_a_commit_cut_at_every_fuse(self):
        before = {"a": words(8), "b": ["x"], "c": [], "d": ["y"]}
        for changes in (
            *[{"a": words(15), "c": None, "e": ["z"]}, {"b": None}, {"a": words(1), "b": words(1), "c": words(1)}],
            {key: None for key in "abcd"},
        ):
            after = {key: record for key, record in {**before, **changes}.items() if record is not None}
            total = self.total(changes)
            outcomes = []
            for fuse in range(total + 2):
                for mask in (*range(16), 2**40 - 1, 2**40, 5 << 6, 2**7 - 2):
                    outcomes.append(self.cut(changes, fuse, mask, total, before, after))
            self.assertEqual({*outcomes}, {"before", "after"})

    def total(self, changes):
        """The number of operations of a commit."""
        disk, vault = self.made()
        disk.fuse = 1000
        vault.commit(changes)
        return 1000 - disk.fuse

    def cut(self, changes, fuse, mask, total, before, after):
        disk, vault = self.made()
        disk.fuse = fuse
        if fuse < total:
            self.assertRaises(PowerCut, vault.commit, changes)
        else:
            vault.commit(changes)
        disk.fall(mask)
        again = Vault.opened(disk)
        found = records_of(again)
        self.assertIn(found, (before, after))
        if fuse < total - 1 or (fuse == total - 1 and mask & 1 == 0):
            self.assertEqual(found, before)
        else:
            self.assertEqual(found, after)
        # It goes on working, whatever is left in cells that are not in use.
        self.assertEqual(len(again.used()), cells_needed(found))
        again.commit(changes)
        self.assertEqual(records_of(Vault.opened(disk)), after)
        return "before" if found == before else "after"

    def test_many_cuts_in_a_row(self):
        chooser = Chooser(8)
        disk = Disk(40)
        vault, plain = Vault.fresh(disk), {}
        for number in range(600):
            changes = {}
            for key in chooser.some_of(["a", "b", "c", "d"], 3):
                changes[key] = None if chooser.below(4) == 0 else [f"{number}"] * chooser.below(20)
            after = {key: record for key, record in {**plain, **changes}.items() if record is not None}
            disk.fuse = chooser.below(16)
            try:
                vault.commit(changes)
                plain = after
            except PowerCut:
                disk.fall(chooser.below(2**12))
                vault = Vault.opened(disk)
                self.assertIn(records_of(vault), (plain, after))
                plain = records_of(vault)
            self.assertEqual(records_of(vault), plain)


class SpaceTest(unittest.TestCase):
    def test_cells_needed(self):
        for records, cells in (
            *[({}, 3), ({"a": []}, 4), ({"a": words(7)}, 4), ({"a": words(8)}, 5), ({"a": words(14)}, 5)],
            ({key: [] for key in "abc"}, 2 + 1 + 3),
            ({key: words(15) for key in "abcd"}, 2 + 2 + 12),
            ({f"k{number}": [] for number in range(5001)}, 2 + 1429 + 5001),
        ):
            self.assertEqual(cells_needed(records), cells)

    def test_against_a_vault(self):
        chooser = Chooser(2)
        for _ in range(60):
            records = {f"k{number}": words(chooser.below(40)) for number in range(chooser.below(20))}
            before = copy.deepcopy(records)
            vault = Vault.fresh(Disk(400))
            vault.commit(records)
            self.assertEqual(cells_needed(records), len(vault.used()))
            self.assertEqual(records, before)


if __name__ == "__main__":
    unittest.main()
