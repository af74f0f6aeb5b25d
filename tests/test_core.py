"""Points 35, 36, 38 and 39: cores and thin histories."""

import unittest

from partclones.closed.closure import closure
from partclones.closed.gaps import first_gap
from partclones.errors import NotClosed, Repeated, TooLarge, Unknown
from partclones.histories.core import core, thinned
from partclones.histories.history import History
from support import CRISS_CROSS, TWO_ROOTS, Grown, Web, criss_cross, example, is_plain, make_order
from support import plain_core, plain_is_closed, subsets


def bare_history(rows):
    """A history of these versions with empty trees."""
    history = History()
    for name, parents in rows:
        history.commit(name, parents, {})
    return history


class CoreTest(unittest.TestCase):
    def test_on_all_versions(self):
        for seed in range(3):
            history = Grown(seed).grow(15).history
            self.assertEqual(core(history, history.names()), history.facts())
            self.assertEqual(core(history, history.names()[::-1]), history.facts())

    def test_on_no_versions(self):
        self.assertEqual(core(example(), []), ((), ()))
        self.assertEqual(core(History(), []), ((), ()))

    def test_on_some_versions(self):
        history = criss_cross(d={"f": ["a"], "g": []})
        files, origins = (("f", ("a",)), ("g", ())), (("f", ("d",)), ("g", ()))
        expected = (("c", (), (), ()), ("d", (), files, origins)), ((("c", "d"), 3),)
        self.assertEqual(core(history, ["d", "c"]), expected)
        expected = (("d", ("r",), files, origins), ("r", (), (), ())), ((("d",), 2),)
        self.assertEqual(core(history, ["r", "d"]), expected)

    def test_a_forgotten_version_that_is_under_no_kept_one(self):
        self.assertEqual(core(criss_cross(), ["r"]), ((("r", (), (), ()),), ()))
        self.assertEqual(core(criss_cross(), ["a", "r"])[1], ())

    def test_origins_may_be_forgotten_versions(self):
        rows, tally = core(example(), ["m"])
        self.assertEqual(rows, (("m", (), (("f", ("b", "c", "d")),), (("f", ("r", "r", "x")),)),))
        self.assertEqual(tally, ((("m",), 3),))

    def test_against_the_definition(self):
        for seed in range(4):
            grown = Grown(seed).grow(14)
            names = grown.history.names()
            for step in (1, 2, 3, 5):
                for start in range(step):
                    kept = names[start::step]
                    found = core(grown.history, kept[::-1])
                    self.assertEqual(found, plain_core(grown, kept))
                    self.assertTrue(is_plain(found))

    def test_all_sets_of_small_histories_against_the_definition(self):
        for seed in (3, 8):
            grown = Grown(seed).grow(7)
            for kept in subsets(grown.history.names()):
                self.assertEqual(core(grown.history, kept), plain_core(grown, kept))

    def test_the_core_of_a_core_is_that_of_the_first_history(self):
        for seed in (1, 6):
            history = Grown(seed).grow(7).history
            for middle in subsets(history.names())[::3]:
                left = History.of(core(history, middle))
                self.assertEqual(left.facts(), core(history, middle))
                for kept in subsets(middle):
                    self.assertEqual(core(left, kept), core(history, kept))

    def test_refused(self):
        for error, names, name in ((Unknown, ["x", "q", "x"], "q"), (Repeated, ["x", "y", "y", "q"], "y")):
            for call in (core, thinned):
                with self.assertRaises(error) as caught:
                    call(example(), names)
                self.assertEqual(caught.exception.name, name)

    def test_nothing_that_is_passed_is_changed(self):
        history, names = example(), ["y", "m"]
        before = history.facts()
        core(history, names)
        thinned(history, names).commit("n", ["m"], {})
        self.assertEqual((history.facts(), names), (before, ["y", "m"]))
        thin = thinned(history, names)
        facts = thin.facts()
        history.commit("n", ["m"], {})
        names.clear()
        self.assertEqual(thin.facts(), facts)


class ThinTest(unittest.TestCase):
    def test_facts_are_the_core(self):
        history = example()
        thin = thinned(history, ["y", "r", "x"])
        self.assertIs(type(thin), History)
        self.assertEqual(thin.facts(), core(history, ["r", "x", "y"]))
        self.assertIsNot(thinned(history, history.names()), history)

    def test_a_list_that_is_not_closed(self):
        for names, gap in ((["d", "c"], ("c", "d", "a")), (["d", "a", "c", "r"], ("c", "d", "b"))):
            with self.assertRaises(NotClosed) as caught:
                thinned(criss_cross(), names)
            error = caught.exception
            self.assertEqual((error.first, error.second, error.missing), gap)

    def test_the_name_of_a_forgotten_version_is_free_again(self):
        thin = thinned(example(), ["m"])
        self.assertIs("x" in thin, False)
        thin.commit("x", ["m"], {"f": ["b"]})
        self.assertEqual(thin.reach(["x"]), 5)

    def check_alike(self, full, thin, names):
        """Whatever is asked of the versions has the same answer in both histories."""
        for x in names:
            self.assertEqual(thin.tree(x), full.tree(x))
            self.assertEqual(thin.origins(x), full.origins(x))
            for y in names:
                self.assertIs(thin.is_under(x, y), full.is_under(x, y))
                self.assertEqual(thin.bases(x, y), full.bases(x, y))
                self.assertEqual(thin.base(x, y), full.base(x, y))
                self.assertEqual(thin.lead(x, y), full.lead(x, y))
                self.assertEqual(thin.reach([x, y] if x != y else [x]), full.reach([x, y] if x != y else [x]))
        self.assertEqual(thin.reach(names), full.reach(names))

    def both(self, full, thin, call, *arguments):
        """Do the same with both histories, and check that both answer the same."""
        told = []
        for history in (full, thin):
            try:
                told.append(getattr(history, call)(*arguments))
            except TooLarge as error:
                told.append(error.path)
        self.assertEqual(told[0], told[1])

    def test_a_thin_history_answers_like_the_full_one(self):
        for seed in range(6):
            grown = Grown(seed).grow(14)
            full = grown.history
            kept = closure(full.order(), full.names()[seed::4])
            thin = thinned(full, kept)
            self.check_alike(full, thin, kept)
            for number in range(8):
                names, chooser = thin.names(), grown.chooser
                one, other, third = [chooser.one_of(names) for _ in range(3)]
                if number % 3 == 0 and one != other:
                    self.both(full, thin, "merge", f"new{number}", one, other)
                elif number % 3 == 1:
                    self.both(full, thin, "pick", f"new{number}", one, other, third)
                else:
                    tree = grown.changed(thin.tree(one))
                    self.both(full, thin, "commit", f"new{number}", chooser.some_of(names, 3), tree)
                self.check_alike(full, thin, thin.names())
            self.assertEqual(core(full, thin.names()), thin.facts())

    def test_for_a_set_that_is_not_closed_this_cannot_be_had(self):
        full = criss_cross(r={"f": ["r"]}, a={"f": ["a"]}, b={"f": ["r"]}, c={"f": ["a"]}, d={"f": ["a"]})
        poor = History.of(core(full, ["c", "d", "r"]))
        self.assertNotEqual(poor.base("c", "d"), full.base("c", "d"))


class KindsTest(unittest.TestCase):
    def test_closed_exactly_if_every_kind_has_one_member(self):
        grown_rows = [Grown(seed).grow(8).rows for seed in (2, 5)]
        for rows in (CRISS_CROSS, TWO_ROOTS, *grown_rows):
            history, web = bare_history(rows), Web(rows)
            for names in subsets(history.names()):
                single = all(len(kind) == 1 for kind, _ in core(history, names)[1])
                self.assertIs(single, plain_is_closed(web, names))
                self.assertIs(single, first_gap(make_order(rows), names) is None)

    def test_also_for_a_history_that_has_forgotten(self):
        for rows in (TWO_ROOTS, Grown(2).grow(8).rows):
            history, web = bare_history(rows), Web(rows)
            for middle in subsets(history.names())[::5]:
                if not plain_is_closed(web, middle):
                    continue
                thin = thinned(history, middle)
                self.assertTrue(all(len(kind) == 1 for kind, _ in thin.tally()))
                for names in subsets(middle):
                    single = all(len(kind) == 1 for kind, _ in core(thin, names)[1])
                    self.assertIs(single, plain_is_closed(web, names))


if __name__ == "__main__":
    unittest.main()
