"""Point 40: narrowed histories."""

import unittest

from partclones.histories.core import core, thinned
from partclones.histories.history import History
from partclones.histories.narrowing import narrowed_history
from partclones.trees.narrow import narrowed
from support import Grown, is_plain


def history_of_folders():
    history = History()
    history.commit("r", [], {"lib": ["l"], "lib/a": ["a", "b"], "libs": ["s"], "lib2/a": [], "doc/lib": ["d"]})
    history.commit("n", ["r"], {"lib/a": ["a", "c"], "lib/a/x": [], "libs": ["t"]})
    return history


class NarrowingTest(unittest.TestCase):
    def test_a_folder_and_what_is_below_it(self):
        history = narrowed_history(history_of_folders(), ["lib"])
        self.assertIs(type(history), History)
        self.assertEqual(history.tree("r"), {"lib": ["l"], "lib/a": ["a", "b"]})
        self.assertEqual(history.origins("r"), {"lib": ["r"], "lib/a": ["r", "r"]})
        self.assertEqual(history.tree("n"), {"lib/a": ["a", "c"], "lib/a/x": []})
        self.assertEqual(history.origins("n"), {"lib/a": ["r", "n"], "lib/a/x": []})

    def test_a_folder_that_is_only_the_beginning_of_a_word(self):
        history = narrowed_history(history_of_folders(), ["li", "lib/", "doc/li"])
        self.assertEqual([history.tree("r"), history.tree("n")], [{}, {}])
        self.assertEqual(narrowed_history(history_of_folders(), ["libs"]).tree("r"), {"libs": ["s"]})

    def test_several_folders(self):
        history = narrowed_history(history_of_folders(), ["lib2", "doc", "lib/a/x", "doc/lib", "none"])
        self.assertEqual(list(history.tree("r").items()), [("doc/lib", ["d"]), ("lib2/a", [])])
        self.assertEqual(history.origins("r"), {"doc/lib": ["r"], "lib2/a": []})
        self.assertEqual(history.tree("n"), {"lib/a/x": []})

    def test_no_folders(self):
        history = narrowed_history(history_of_folders(), [])
        self.assertEqual(history.facts(), ((("n", ("r",), (), ()), ("r", (), (), ())), ()))

    def test_tally_and_order_stay(self):
        full = Grown(4).grow(14).history
        thin = thinned(full, full.names()[3:4])
        for history in (full, thin, History.of(core(full, full.names()[::2]))):
            for folders in ([], ["g"], ["g/a", "f"], ["f", "g", "h"]):
                found = narrowed_history(history, folders)
                self.assertEqual(found.tally(), history.tally())
                self.assertEqual(found.names(), history.names())
                self.assertEqual([row[:2] for row in found.facts()[0]], [row[:2] for row in history.facts()[0]])
                for name in history.names():
                    self.assertEqual(found.tree(name), narrowed(history.tree(name), folders))
                    self.assertEqual(found.origins(name), narrowed(history.origins(name), folders))
                self.assertTrue(is_plain(found.facts()))
            self.assertEqual(narrowed_history(history, ["f", "g", "h"]).facts(), history.facts())

    def test_nothing_that_is_passed_is_changed(self):
        history, folders = history_of_folders(), ["lib", "doc"]
        before = history.facts()
        found = narrowed_history(history, folders)
        self.assertEqual((history.facts(), folders), (before, ["lib", "doc"]))
        facts = found.facts()
        folders.append("libs")
        history.commit("m", ["n"], {})
        self.assertEqual(found.facts(), facts)
        found.commit("k", [], {"libs": ["any"]})
        self.assertIs("k" in history, False)


if __name__ == "__main__":
    unittest.main()
