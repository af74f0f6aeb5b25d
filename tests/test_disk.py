"""Points 50 and 51: disks, fuses, power cuts and falls."""

import unittest

from partclones.errors import BadCell, BadFuse, BadItems, BadMask, BadSize, PowerCut
from partclones.vault.disk import Disk
from support import Chooser


class PlainDisk:
    """A disk as points 50 and 51 tell it, to compare with."""

    def __init__(self, cells):
        self.held = [None] * cells
        self.queue = []
        self.fuse = None

    def read(self, at):
        return ([items for place, items in self.queue if place == at] or [self.held[at]])[-1]

    def works(self):
        if self.fuse == 0:
            return False
        if self.fuse is not None:
            self.fuse -= 1
        return True

    def write(self, at, items):
        if self.works():
            self.queue.append((at, items))
            return True
        return False

    def flush(self):
        if self.works():
            self.carry_out(self.queue)
            return True
        return False

    def carry_out(self, writes):
        for at, items in writes:
            self.held[at] = items
        self.queue = []

    def fall(self, mask):
        self.carry_out([write for k, write in enumerate(self.queue) if mask & 2**k])
        self.fuse = None


class Case(unittest.TestCase):
    def setUp(self):
        self.disk = Disk(6)

    def cells(self):
        return [self.disk.read(at) for at in range(self.disk.cells)]

    def picture(self):
        return self.cells(), self.disk.queued, self.disk.fuse

    def refused(self, error, call, *arguments):
        before = self.picture()
        with self.assertRaises(error) as caught:
            call(*arguments)
        self.assertEqual(self.picture(), before)
        return caught.exception


class DiskTest(Case):
    def test_sizes(self):
        for cells in (3, 0, -1, -4, 4001, 2**70):
            with self.assertRaises(BadSize) as caught:
                Disk(cells)
            self.assertEqual(caught.exception.value, cells)
        for cells in (4, 5, 4000):
            disk = Disk(cells)
            self.assertEqual(disk.cells, cells)
            self.assertIsNone(disk.read(cells - 1))

    def test_a_new_disk(self):
        self.assertEqual(self.picture(), ([None] * 6, 0, None))
        self.assertEqual((Disk.WIDTH, self.disk.WIDTH), (8, 8))

    def test_write_and_flush(self):
        self.assertIsNone(self.disk.write(2, ("a", "b")))
        self.assertEqual(self.disk.queued, 1)
        self.assertIsNone(self.disk.write(5, ()))
        self.assertEqual(self.picture(), ([None, None, ("a", "b"), None, None, ()], 2, None))
        self.assertIsNone(self.disk.flush())
        self.assertEqual(self.picture(), ([None, None, ("a", "b"), None, None, ()], 0, None))
        self.disk.fall(0)
        self.assertEqual(self.disk.read(2), ("a", "b"))

    def test_queued_writes_are_read(self):
        self.disk.write(1, ("a",))
        self.disk.flush()
        self.disk.write(1, ("b",))
        self.disk.write(1, ("c",))
        self.disk.write(2, ("d",))
        self.assertEqual([self.disk.read(1), self.disk.read(2), self.disk.queued], [("c",), ("d",), 3])
        self.disk.flush()
        self.assertEqual([self.disk.read(1), self.disk.read(2), self.disk.queued], [("c",), ("d",), 0])

    def test_queued_writes_are_lost(self):
        self.disk.write(1, ("a",))
        self.disk.flush()
        self.disk.write(1, ("b",))
        self.disk.write(3, ("c",))
        self.disk.fall(0)
        self.assertEqual(self.picture(), ([None, ("a",), None, None, None, None], 0, None))
        self.disk.flush()
        self.assertEqual(self.cells(), [None, ("a",), None, None, None, None])

    def test_cells(self):
        for at in (-1, -6, -7, 6, 7, 2**70):
            self.assertEqual(self.refused(BadCell, self.disk.read, at).at, at)
            self.assertEqual(self.refused(BadCell, self.disk.write, at, ("a",)).at, at)
        self.disk.write(0, ("a",))
        self.disk.write(5, ("b",))
        self.assertEqual([self.disk.read(0), self.disk.read(5)], [("a",), ("b",)])

    def test_items(self):
        self.disk.write(1, tuple("abcdefgh"))
        self.disk.write(2, ("x" * 200,) * 8)
        self.assertEqual([self.disk.read(1), self.disk.read(2)], [tuple("abcdefgh"), ("x" * 200,) * 8])
        for items in (tuple("abcdefghi"), ("",) * 9, ("x" * 201,), ("a", "x" * 201), ("x" * 201,) * 9):
            self.refused(BadItems, self.disk.write, 1, items)

    def test_two_disks_stay_apart(self):
        other = Disk(6)
        self.disk.write(1, ("a",))
        self.disk.flush()
        self.disk.fuse = 3
        self.assertEqual([other.read(1), other.fuse, other.queued], [None, None, 0])


class FuseTest(Case):
    def test_operations_lower_the_fuse(self):
        self.disk.fuse = 4
        self.assertEqual(self.disk.fuse, 4)
        self.disk.write(1, ("a",))
        self.assertEqual(self.disk.fuse, 3)
        self.disk.read(1)
        self.assertEqual(self.disk.fuse, 3)
        self.disk.flush()
        self.assertEqual(self.disk.fuse, 2)
        self.disk.flush()
        self.assertEqual(self.disk.fuse, 1)
        self.disk.flush()
        self.assertEqual(self.disk.fuse, 0)

    def test_an_operation_that_finds_the_fuse_at_zero_does_nothing(self):
        self.disk.write(1, ("a",))
        self.disk.fuse = 0
        for _ in range(2):
            self.refused(PowerCut, self.disk.write, 1, ("b",))
            self.refused(PowerCut, self.disk.flush)
        self.assertEqual(self.picture(), ([None, ("a",), None, None, None, None], 1, 0))
        self.disk.fall(0)
        self.assertIsNone(self.disk.read(1))

    def test_a_fuse_of_one(self):
        self.disk.fuse = 1
        self.disk.write(1, ("a",))
        self.refused(PowerCut, self.disk.flush)
        self.disk.fuse = 1
        self.disk.flush()
        self.refused(PowerCut, self.disk.write, 1, ("b",))
        self.assertEqual(self.disk.read(1), ("a",))

    def test_fuses_that_can_be_assigned(self):
        for count in (0, 1, 999, 1000, None, 7, None):
            self.disk.fuse = count
            self.assertEqual(self.disk.fuse, count)
        for count in (0, 1, 1000, None):
            self.assertIsNone(self.disk.cut_after(count))
            self.assertEqual(self.disk.fuse, count)

    def test_bad_fuses(self):
        def assign(value):
            self.disk.fuse = value

        for before in (None, 0, 5):
            self.disk.fuse = before
            for count in (-1, 1001, -1000, 2**70):
                self.assertEqual(self.refused(BadFuse, assign, count).value, count)
                self.assertEqual(self.refused(BadFuse, self.disk.cut_after, count).value, count)

    def test_a_new_fuse_lets_the_disk_work_again(self):
        self.disk.fuse = 0
        self.refused(PowerCut, self.disk.flush)
        self.disk.fuse = None
        for _ in range(3):
            self.disk.write(1, ("a",))
            self.disk.flush()
        self.disk.cut_after(0)
        self.refused(PowerCut, self.disk.flush)
        self.disk.cut_after(2)
        self.disk.flush()
        self.assertEqual(self.disk.fuse, 1)

    def test_a_thousand_operations(self):
        self.disk.fuse = 1000
        for _ in range(500):
            self.disk.write(3, ("a",))
            self.disk.flush()
        self.assertEqual(self.disk.fuse, 0)
        self.refused(PowerCut, self.disk.flush)

    def test_a_refused_write_lowers_no_fuse(self):
        for fuse in (1, 0):
            self.disk.fuse = fuse
            self.refused(BadCell, self.disk.write, 6, ("a",))
            self.refused(BadCell, self.disk.write, -1, ("a",) * 9)
            self.refused(BadCell, self.disk.read, 6)
            self.refused(BadItems, self.disk.write, 5, ("a",) * 9)
            self.refused(BadItems, self.disk.write, 5, ("x" * 201,))
            self.assertEqual(self.disk.fuse, fuse)


class FallTest(Case):
    def test_each_mask_of_a_few_bits(self):
        writes = [(1, ("a",)), (2, ("b",)), (1, ("c",)), (3, ()), (1, ("d",))]
        for mask in range(2**7):
            self.disk, plain = Disk(6), PlainDisk(6)
            for disk in (self.disk, plain):
                disk.write(1, ("old",))
                disk.flush()
                for at, items in writes:
                    disk.write(at, items)
                disk.fall(mask)
            self.assertEqual(self.picture(), (plain.held, 0, None))

    def test_a_fall_returns_none_and_removes_the_fuse(self):
        for fuse in (0, 5, 1000, None):
            self.disk.fuse = fuse
            self.assertIsNone(self.disk.fall(0))
            self.assertIsNone(self.disk.fuse)
            self.disk.write(1, ("a",))
            self.disk.flush()

    def test_the_bits_tell_which_writes_are_carried_out(self):
        for at in range(3):
            self.disk.write(at, (f"{at}",))
        self.disk.fall(5)
        self.assertEqual(self.cells(), [("0",), None, ("2",), None, None, None])

    def test_bits_behind_the_last_write(self):
        self.disk.write(0, ("a",))
        self.disk.write(1, ("b",))
        self.disk.fall(2**40)
        self.assertEqual(self.cells(), [None] * 6)
        self.disk.write(0, ("a",))
        self.disk.write(1, ("b",))
        self.disk.fall(2**40 - 2)
        self.assertEqual(self.cells(), [None, ("b",), None, None, None, None])
        self.disk.fall(2**39 + 1)
        self.assertEqual(self.cells(), [None, ("b",), None, None, None, None])

    def test_more_writes_than_bits(self):
        self.disk = Disk(100)
        for at in range(60):
            self.disk.write(at, (f"{at}",))
        self.disk.fall(2**40)
        self.assertEqual([at for at in range(100) if self.disk.read(at) is not None], [40])
        for at in range(60):
            self.disk.write(at, (f"{at}",))
        self.disk.fall(2**40 - 1)
        self.assertEqual([at for at in range(100) if self.disk.read(at) is not None], list(range(41)))

    def test_bad_masks(self):
        self.disk.write(1, ("a",))
        self.disk.fuse = 3
        for mask in (-1, -(2**40), 2**40 + 1, 2**70):
            self.assertEqual(self.refused(BadMask, self.disk.fall, mask).value, mask)

    def test_the_disk_after_a_fall(self):
        self.disk.fuse = 2
        self.disk.write(1, ("a",))
        self.disk.write(2, ("b",))
        self.refused(PowerCut, self.disk.write, 3, ("c",))
        self.disk.fall(2)
        self.assertEqual(self.picture(), ([None, None, ("b",), None, None, None], 0, None))
        self.disk.write(1, ("d",))
        self.assertEqual(self.disk.queued, 1)
        self.disk.flush()
        self.disk.fall(2**40 - 1)
        self.assertEqual(self.cells(), [None, ("d",), ("b",), None, None, None])

    def test_against_the_definition(self):
        chooser = Chooser(6)
        self.disk, plain = Disk(6), PlainDisk(6)
        for number in range(3000):
            kind, at, items = chooser.below(8), chooser.below(6), (f"{number}",)
            if kind < 4:
                self.both(plain, "write", at, items)
            elif kind < 6:
                self.both(plain, "flush")
            elif kind == 6:
                self.disk.fuse = plain.fuse = chooser.one_of([None, 0, 1, 2, 5])
            else:
                mask = chooser.below(16)
                self.disk.fall(mask)
                plain.fall(mask)
            expected = [plain.read(place) for place in range(6)], len(plain.queue), plain.fuse
            self.assertEqual(self.picture(), expected)

    def both(self, plain, call, *arguments):
        if getattr(plain, call)(*arguments):
            self.assertIsNone(getattr(self.disk, call)(*arguments))
        else:
            self.refused(PowerCut, getattr(self.disk, call), *arguments)


if __name__ == "__main__":
    unittest.main()
