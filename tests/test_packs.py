"""Point 58: packs."""

import copy
import unittest

from partclones.errors import Misfit
from partclones.parties.packs import pack, unpack
from partclones.trees.puts import put_tree, puts_between
from support import Chooser, is_plain, spoil


def plain_pack(trees, names, have):
    """The pack, straight from point 58."""
    entries = []
    for at, name in enumerate(sorted(names)):
        bases = [None, *sorted([*have, *sorted(names)[:at]])]
        puts = [tuple(puts_between(trees[base] if base else {}, trees[name])) for base in bases]
        best = min(range(len(bases)), key=lambda number: (len(puts[number]), number))
        entries.append((name, bases[best], puts[best]))
    return tuple(entries)


class PackTest(unittest.TestCase):
    def test_nothing(self):
        self.assertEqual(pack({}, [], []), ())
        self.assertEqual(pack({"a": {"f": []}}, [], ["a"]), ())
        self.assertEqual(unpack((), {}), {})

    def test_no_base(self):
        trees = {"a": {"f": ["x"], "g": []}, "b": {}}
        self.assertEqual(pack(trees, ["b", "a"], []), (("a", None, (("f", ("x",)), ("g", ()))), ("b", None, ())))

    def test_the_base_with_the_fewest_puts(self):
        trees = {
            "n": {"f": ["1"], "g": ["2"], "h": ["3"]},
            "a": {"f": ["1"]},
            "b": {"f": ["1"], "g": ["2"]},
            "c": {"f": ["1"], "g": ["2"], "h": ["3"], "k": []},
        }
        self.assertEqual(pack(trees, ["n"], ["c", "a"]), (("n", "c", (("k", None),)),))
        self.assertEqual(pack(trees, ["n"], ["c", "b", "a"]), (("n", "b", (("h", ("3",)),)),))
        self.assertEqual(pack(trees, ["n"], ["a"]), (("n", "a", (("g", ("2",)), ("h", ("3",)))),))

    def test_none_is_taken_where_it_is_among_them(self):
        trees = {"n": {"f": ["1"]}, "a": {"f": ["2"]}, "b": {"f": ["1"], "g": []}, "c": {}}
        self.assertEqual(pack(trees, ["n"], ["c", "b", "a"]), (("n", None, (("f", ("1",)),)),))
        self.assertEqual(pack({"n": {}, "a": {}}, ["n"], ["a"]), (("n", None, ()),))
        # With no put at all a base is better than None with one put.
        trees["d"] = {"f": ["1"]}
        self.assertEqual(pack(trees, ["n"], ["d", "a"]), (("n", "d", ()),))

    def test_earlier_entries(self):
        trees = {"a": {"f": ["1"], "g": ["2"]}, "b": {"f": ["1"], "g": ["3"]}, "c": {"f": ["1"], "g": ["3"]}}
        self.assertEqual(pack(trees, ["c", "a", "b"], []), (
            ("a", None, (("f", ("1",)), ("g", ("2",)))),
            ("b", "a", (("g", ("3",)),)),
            ("c", "b", ()),
        ))
        # Later entries are no bases, and what the receiver has comes before in the order of the names.
        self.assertEqual(pack(trees, ["a", "c"], ["b"]), (("a", "b", (("g", ("2",)),)), ("c", "b", ())))
        self.assertEqual(pack(trees, ["b", "c"], ["a"])[1], ("c", "b", ()))

    def test_against_the_definition(self):
        chooser = Chooser(1)
        for _ in range(200):
            trees = {}
            for name in chooser.some_of(["a", "b", "c1", "d", "e", "f9", "g"], 12):
                trees[name] = {path: [chooser.one_of("12")] for path in chooser.some_of(["f", "g", "h"], 4)}
            names = [name for name in trees if chooser.below(2)]
            have = [name for name in trees if name not in names]
            before = copy.deepcopy(trees), list(names), list(have)
            found = pack(trees, names, have)
            self.assertEqual(found, plain_pack(trees, names, have))
            self.assertEqual((trees, names, have), before)
            self.assertTrue(is_plain(found))
            had = {name: trees[name] for name in have}
            sent = unpack(found, had)
            self.assertEqual(sent, {name: trees[name] for name in names})
            self.assertEqual([list(sent[name]) for name in sent], [sorted(trees[name]) for name in sent])
            self.assertEqual(unpack(list(found), had), sent)
            spoil(sent)
            self.assertEqual(trees, before[0])


class UnpackTest(unittest.TestCase):
    def test_misfits(self):
        have = {"a": {"f": ["x"]}}
        fine = [("b", "a", (("g", ()),)), ("c", "b", ()), ("d", None, ())]
        self.assertEqual(unpack(fine, have), {"b": {"f": ["x"], "g": []}, "c": {"f": ["x"], "g": []}, "d": {}})
        for entries, place in (
            ([("b", "q", ())], 0),
            ([("b", "b", ())], 0),
            ([*fine, ("e", "f", ()), ("f", None, ()), ("g", "q", ())], 3),
            ([("b", "c", ()), *fine[1:]], 0),
            ([fine[2], ("e", "z", ())], 1),
        ):
            with self.assertRaises(Misfit) as caught:
                unpack(entries, have)
            self.assertEqual(caught.exception.place, place)
        self.assertEqual(have, {"a": {"f": ["x"]}})

    def test_nothing_is_shared(self):
        text = ["x"]
        have = {"a": {"f": text}}
        found = unpack([("b", "a", ()), ("c", "b", ())], have)
        spoil(found)
        self.assertEqual(have, {"a": {"f": ["x"]}})
        found = unpack([("b", "a", ()), ("c", "b", ())], have)
        spoil(have)
        self.assertEqual(found, {"b": {"f": ["x"]}, "c": {"f": ["x"]}})
        found["b"]["f"].append("y")
        self.assertEqual(found["c"], {"f": ["x"]})

    def test_puts(self):
        puts = (("f", None), ("g", ("a", "")), ("h", ()))
        self.assertEqual(unpack([("b", "a", puts)], {"a": {"f": []}})["b"], put_tree({"f": []}, puts))


if __name__ == "__main__":
    unittest.main()
