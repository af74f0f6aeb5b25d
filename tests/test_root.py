"""Point 53: roots."""

import unittest

from partclones.errors import Broken
from partclones.vault.disk import Disk
from partclones.vault.root import root_of


class RootTest(unittest.TestCase):
    def setUp(self):
        self.disk = Disk(5)

    def root(self, first, second):
        self.disk = Disk(5)
        for at, items in ((0, first), (1, second)):
            if items is not None:
                self.disk.write(at, items)
        try:
            found = root_of(self.disk)
        except Broken:
            return None
        self.assertIs(type(found), tuple)
        self.assertEqual([type(part) for part in found], [int] * 3)
        return found

    def test_none(self):
        self.assertRaises(Broken, root_of, Disk(4))
        self.assertIsNone(self.root(None, None))

    def test_one_alone(self):
        self.assertEqual(self.root(("root", "0", "2"), None), (0, 0, 2))
        self.assertEqual(self.root(None, ("root", "0", "2")), (1, 0, 2))
        self.assertEqual(self.root(None, ("root", "7", "0")), (1, 7, 0))
        self.assertEqual(self.root(("root", "10", "4"), ("other",)), (0, 10, 4))

    def test_the_greater_count(self):
        self.assertEqual(self.root(("root", "3", "2"), ("root", "4", "3")), (1, 4, 3))
        self.assertEqual(self.root(("root", "5", "2"), ("root", "4", "3")), (0, 5, 2))
        self.assertEqual(self.root(("root", "9", "2"), ("root", "10", "3")), (1, 10, 3))
        self.assertEqual(self.root(("root", "100", "2"), ("root", "99", "3")), (0, 100, 2))

    def test_equal_counts(self):
        self.assertEqual(self.root(("root", "4", "2"), ("root", "4", "3")), (0, 4, 2))
        self.assertEqual(self.root(("root", "0", "3"), ("root", "0", "2")), (0, 0, 3))

    def test_great_counts(self):
        great = "9" * 200
        self.assertEqual(self.root(("root", great[1:], "2"), ("root", great, "3")), (1, int(great), 3))
        self.assertEqual(self.root(("root", "1" + "0" * 199, "2"), ("root", "9" * 199, "3")), (0, 10**199, 2))

    def test_the_cell_of_the_directory_is_not_looked_at(self):
        self.assertEqual(self.root(("root", "1", "5"), None), (0, 1, 5))
        self.assertEqual(self.root(("root", "1", "0"), None), (0, 1, 0))
        self.assertEqual(self.root(("root", "1", "8" * 200), None), (0, 1, int("8" * 200)))

    def test_what_is_no_root(self):
        for items in (
            *[(), ("root",), ("root", "1"), ("root", "1", "2", ""), ("root", "1", "2", "3"), ("1", "2")],
            *[("Root", "1", "2"), ("roots", "1", "2"), ("", "1", "2"), (" root", "1", "2"), ("-", "1", "2")],
            *[("root", "01", "2"), ("root", "00", "2"), ("root", "1", "02"), ("root", "1", "00")],
            *[("root", "", "2"), ("root", "1", ""), ("root", "-1", "2"), ("root", "1", "-1"), ("root", "1", "-")],
            *[("root", "+1", "2"), ("root", " 1", "2"), ("root", "1 ", "2"), ("root", "1", "a"), ("root", "1.0", "2")],
            *[("root", "1_0", "2"), ("root", "1", "2,3"), ("1", "root", "2")],
        ):
            self.assertIsNone(self.root(items, None), items)
            self.assertIsNone(self.root(None, items), items)
            self.assertIsNone(self.root(items, items), items)
            self.assertEqual(self.root(items, ("root", "0", "2")), (1, 0, 2))
            self.assertEqual(self.root(("root", "0", "2"), items), (0, 0, 2))

    def test_reading_is_no_operation(self):
        self.disk.write(0, ("root", "0", "2"))
        self.disk.fuse = 0
        self.assertEqual(root_of(self.disk), (0, 0, 2))
        self.assertEqual((self.disk.fuse, self.disk.queued), (0, 1))


if __name__ == "__main__":
    unittest.main()
