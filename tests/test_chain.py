"""Point 52: chains."""

import unittest

from partclones.errors import BadCell, BadSize, Broken
from partclones.vault.chain import cells_for, chain_cells, laid, read_chain
from partclones.vault.disk import Disk


def words(count):
    return [f"s{number}" for number in range(count)]


class SizeTest(unittest.TestCase):
    def test_cells_for(self):
        for count, cells in (
            *[(0, 1), (1, 1), (6, 1), (7, 1), (8, 2), (13, 2), (14, 2), (15, 3), (21, 3), (22, 4)],
            *[(9996, 1428), (9997, 1429), (10000, 1429)],
        ):
            self.assertEqual(cells_for(count), cells)

    def test_bad_counts(self):
        for count in (-1, 10001, -10000, 2**70):
            with self.assertRaises(BadSize) as caught:
                cells_for(count)
            self.assertEqual(caught.exception.value, count)


class LaidTest(unittest.TestCase):
    def test_cells(self):
        for count, places, cells in (
            (0, [5], [(5, ("-",))]),
            (1, [0], [(0, ("-", "s0"))]),
            (7, [3], [(3, ("-", *words(7)))]),
            (8, [9, 2], [(9, ("2", *words(7))), (2, ("-", "s7"))]),
            (14, [2, 9], [(2, ("9", *words(7))), (9, ("-", *words(14)[7:]))]),
            (15, [4, 0, 11], [(4, ("0", *words(7))), (0, ("11", *words(14)[7:])), (11, ("-", "s14"))]),
        ):
            self.assertEqual(laid(words(count), places), cells)

    def test_places_too_few_or_too_many(self):
        for count, many in ((0, 1), (7, 1), (8, 2), (14, 2), (15, 3), (70, 10)):
            self.assertEqual(len(laid(words(count), list(range(many)))), many)
            for wrong in (many - 1, many + 1, 0):
                with self.assertRaises(BadSize) as caught:
                    laid(words(count), list(range(wrong)))
                self.assertEqual(caught.exception.value, wrong)

    def test_nothing_is_changed(self):
        strings, places = words(9), [4, 2]
        laid(strings, places).clear()
        self.assertEqual((strings, places), (words(9), [4, 2]))


class ReadTest(unittest.TestCase):
    def setUp(self):
        self.disk = Disk(12)

    def write(self, *cells):
        for at, items in cells:
            self.disk.write(at, items)

    def broken(self, place):
        for call in (read_chain, chain_cells):
            self.assertRaises(Broken, call, self.disk, place)

    def test_reading_undoes_laying(self):
        for count, places in ((0, [3]), (1, [0]), (7, [11]), (8, [5, 4]), (14, [1, 10]), (15, [2, 9, 3])):
            self.write(*laid(words(count), places))
            for _ in range(2):
                self.assertEqual(read_chain(self.disk, places[0]), words(count))
                self.assertEqual(chain_cells(self.disk, places[0]), places)
                self.disk.flush()

    def test_strings_of_every_kind(self):
        strings = ["", "-", "3", "a b", "x" * 200, "root", "0"] * 2
        self.write(*laid(strings, [3, 4]))
        self.assertEqual(read_chain(self.disk, 3), strings)

    def test_bad_first_cells(self):
        for call in (read_chain, chain_cells):
            for place in (-1, 12, 2**70):
                with self.assertRaises(BadCell) as caught:
                    call(self.disk, place)
                self.assertEqual(caught.exception.at, place)

    def test_cells_without_strings(self):
        self.broken(0)
        self.write((1, ()), (2, ("0", "a")), (3, ("1", "a")))
        for place in (1, 2, 3):
            self.broken(place)

    def test_bad_numbers(self):
        for word in ("", "a", "--", "-1", "01", "00", "+1", " 1", "1 ", "1.0", "12", "99", "9" * 200, "x" * 200, "0-"):
            self.write((0, ("-",)), (1, ("-",)), (5, (word, "a")), (6, ("5", "b")))
            self.broken(5)
            self.broken(6)
        self.write((0, ("-", "c")), (5, ("0", "a")))
        self.assertEqual(read_chain(self.disk, 6), ["b", "a", "c"])
        self.write((11, ("-", "d")), (5, ("11", "a")))
        self.assertEqual(read_chain(self.disk, 6), ["b", "a", "d"])

    def test_circles(self):
        self.write((1, ("1", "a")))
        self.broken(1)
        self.write((2, ("3",)), (3, ("4",)), (4, ("3",)))
        for place in (2, 3, 4):
            self.broken(place)

    def test_nothing_else_is_looked_at(self):
        self.write((1, ("2", "a")), (2, ("3",)), (3, ("-", *words(7))))
        self.assertEqual(read_chain(self.disk, 1), ["a", *words(7)])
        self.assertEqual(chain_cells(self.disk, 1), [1, 2, 3])

    def test_reading_is_no_operation(self):
        self.write(*laid(words(9), [3, 4]))
        self.disk.fuse = 0
        read_chain(self.disk, 3).clear()
        chain_cells(self.disk, 3).clear()
        self.assertEqual((read_chain(self.disk, 3), chain_cells(self.disk, 3)), (words(9), [3, 4]))
        self.assertEqual((self.disk.fuse, self.disk.queued), (0, 2))


if __name__ == "__main__":
    unittest.main()
