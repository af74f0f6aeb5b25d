"""Point 69: nets."""

import unittest

from partclones.errors import NoLetter
from partclones.fleet.net import Net


class NetTest(unittest.TestCase):
    def setUp(self):
        self.net = Net()

    def lacks(self, serial):
        before = self.net.waiting()
        for call in (self.net.look, self.net.deliver, self.net.double, self.net.lose):
            with self.assertRaises(NoLetter) as caught:
                call(serial)
            self.assertEqual(caught.exception.serial, serial)
        self.assertEqual(self.net.waiting(), before)

    def test_a_new_net(self):
        self.assertEqual(self.net.waiting(), [])
        for serial in (0, 1, -1, 2**70):
            self.lacks(serial)

    def test_send(self):
        self.assertEqual(self.net.send("a", "hub", ["x", ""]), 1)
        self.assertEqual(self.net.send("", "any string", []), 2)
        self.assertEqual(self.net.send("a", "a", ["x"] * 300), 3)
        self.assertEqual(self.net.waiting(), [(1, "a", "hub"), (2, "", "any string"), (3, "a", "a")])
        self.assertEqual(self.net.look(1), ("a", "hub", ["x", ""]))
        self.assertEqual(self.net.look(2), ("", "any string", []))
        for serial in (0, 4, -1):
            self.lacks(serial)

    def test_deliver_double_and_lose(self):
        for word in "abc":
            self.net.send(word, "hub", [word])
        self.assertEqual(self.net.deliver(2), ("b", "hub", ["b"]))
        self.lacks(2)
        self.assertEqual(self.net.double(1), 4)
        self.assertEqual(self.net.look(4), self.net.look(1))
        self.assertIsNone(self.net.lose(1))
        self.lacks(1)
        self.assertEqual(self.net.waiting(), [(3, "c", "hub"), (4, "a", "hub")])
        self.assertEqual(self.net.deliver(4), ("a", "hub", ["a"]))
        self.assertEqual(self.net.deliver(3), ("c", "hub", ["c"]))
        self.assertEqual(self.net.waiting(), [])
        # Serial numbers are not used again.
        self.assertEqual(self.net.send("d", "hub", []), 5)
        self.assertEqual(self.net.double(5), 6)
        self.net.lose(6)
        self.assertEqual(self.net.double(5), 7)

    def test_nothing_is_held(self):
        strings = ["x"]
        self.net.send("a", "b", strings)
        self.net.double(1)
        strings.append("y")
        for call in (self.net.look, self.net.look, self.net.deliver):
            found = call(1)
            self.assertEqual(found, ("a", "b", ["x"]))
            found[2].append("z")
        self.assertEqual(self.net.look(2), ("a", "b", ["x"]))
        self.net.waiting().clear()
        self.assertEqual(self.net.waiting(), [(2, "a", "b")])

    def test_two_nets_stay_apart(self):
        other = Net()
        self.net.send("a", "b", [])
        self.assertEqual((other.waiting(), other.send("c", "d", [])), ([], 1))


if __name__ == "__main__":
    unittest.main()
