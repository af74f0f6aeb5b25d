"""Points 37 and 53: records that store histories."""

import copy
import unittest

from partclones.errors import Missing
from partclones.histories.core import core
from partclones.histories.history import History
from partclones.parties.coding import history_records
from partclones.parties.decoding import history_of
from partclones.vault.disk import Disk
from partclones.vault.vault import Vault
from support import Grown, criss_cross, example, spoil

# Histories with texts that are like one another, empty ones, and the empty line.
TEXTS = [[], [""], ["", ""], [" "], ["a"], ["a", ""], ["", "a"], ["aa"], ["0"], ["1", "f"], ["-", "|"], ["a a"]]


def histories():
    found = [History(), example(), criss_cross()]
    found.append(criss_cross(a={"f": [], "g/h": [""], "0": ["", "", "-"]}, c={"f": ["<<<<<<<", " ", "="]}))
    found.extend(History.of(core(example(), names)) for names in ([], ["m"], ["m", "y"], ["r"]))
    for seed in range(5):
        grown = Grown(seed).grow(14).history
        found.extend([grown, History.of(core(grown, grown.names()[::2])), History.of(core(grown, grown.names()[1::3]))])
    return found


class RecordsTest(unittest.TestCase):
    def test_keys(self):
        self.assertEqual(sorted(history_records(History())), ["tally"])
        self.assertEqual(sorted(history_records(example())), ["tally", "v.m", "v.r", "v.x", "v.y"])

    def test_history_of_undoes_history_records(self):
        for history in histories():
            before = history.facts()
            records = history_records(history)
            passed = copy.deepcopy(records)
            found = history_of(passed)
            self.assertIs(type(found), History)
            self.assertEqual((found.facts(), history.facts(), passed), (before, before, records))

    def test_records_can_be_stored(self):
        # The largest trees and the longest names.
        history = History()
        for number in range(60):
            tree = {f"aaaaa{at}/bbbbbb/cccccc": [f"{number:020}"] * 40 for at in range(8)}
            history.commit(f"v{number:05}", history.names()[-3:], tree)
        for told in [history, *histories()]:
            records = history_records(told)
            vault = Vault.fresh(Disk(4000))
            vault.commit(records)
            self.assertEqual({key: vault.read(key) for key in vault.known()}, records)
            self.assertEqual(history_of(records).facts(), told.facts())

    def test_a_row_determines_its_record(self):
        one, other = example(), History()
        # The same rows, with other versions beside them and in another order of the commits.
        for name, parents in (("q", []), ("r", []), ("y", ["r"]), ("x", ["r"]), ("z", ["q"])):
            other.commit(name, parents, example().tree(name) if name in "rxy" else {})
        ones, others = history_records(one), history_records(other)
        for name in "rxy":
            self.assertEqual(ones[f"v.{name}"], others[f"v.{name}"])
        self.assertEqual(history_records(one.copied()), ones)
        self.assertEqual(history_records(History.of(one.facts())), ones)

    def test_different_rows_have_different_records(self):
        found = {}
        for history in [*histories(), *self.single_versions()]:
            records = history_records(history)
            for row in history.facts()[0]:
                record = tuple(records[f"v.{row[0]}"])
                self.assertEqual(found.setdefault(record, row), row)
        self.assertEqual(len({*found.values()}), len(found))

    def single_versions(self):
        """Histories of one version or two, with texts that are like one another."""
        for name in ("a", "b", "ab"):
            for text in TEXTS:
                for paths in (["f"], ["f", "g"], ["f/g"], ["1"]):
                    history = History()
                    history.commit(name, [], {path: text for path in paths})
                    yield history
            history = History()
            history.commit("q", [], {"f": ["a"]})
            history.commit(name, [], {"f": ["a"]})
            yield history
            history = History()
            history.commit("q", [], {"f": ["a"]})
            history.commit(name, ["q"], {"f": ["a"]})
            yield history

    def test_different_tallies_have_different_records(self):
        found = {}
        rows = criss_cross().facts()[0]
        for tally in (
            *[(), ((("a",), 1),), ((("a",), 2),), ((("a",), 11),), ((("a",), 1), (("b",), 1)), ((("a", "b"), 1),)],
            *[((("b",), 1),), ((("a",), 1), (("a", "b"), 1)), ((("c", "d"), 12), (("d",), 1))],
        ):
            record = tuple(history_records(History.of((rows, tally)))["tally"])
            self.assertNotIn(record, found)
            found[record] = tally
            self.assertEqual(history_of({"tally": list(record)}).tally(), tally)
        self.assertEqual(
            history_records(History.of((rows, ((("a",), 3),))))["tally"],
            history_records(History.of((criss_cross(a={"f": []}).facts()[0], ((("a",), 3),))))["tally"],
        )

    def test_more_keys(self):
        records = history_records(example())
        keys = ("a", "v", "v.", "v.1a", "v.abcdefg", "v.a.b", "vx", "w.a", "tally.a", "made")
        more = {**records, **{key: ["x", "1"] for key in keys}}
        self.assertEqual(history_of(more).facts(), example().facts())
        # A version that is lacking is not there; the others need not refer to it.
        del records["v.m"]
        self.assertEqual(history_of(records).names(), ["r", "x", "y"])

    def test_the_lacking_tally(self):
        records = history_records(example())
        del records["tally"]
        for found in ({}, records, {"talley": []}):
            with self.assertRaises(Missing) as caught:
                history_of(found)
            self.assertEqual(caught.exception.key, "tally")

    def test_nothing_is_shared(self):
        history = example()
        records = history_records(history)
        before = copy.deepcopy(records)
        found = history_of(records)
        spoil(records)
        self.assertEqual((found.facts(), history.facts()), (example().facts(),) * 2)
        self.assertEqual(history_records(history), before)
        found.commit("n", ["m"], {})
        self.assertEqual(history.names(), ["m", "r", "x", "y"])


if __name__ == "__main__":
    unittest.main()
