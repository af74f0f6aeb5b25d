"""The interface: names, parameters, kinds, and the examples as they stand there."""

import doctest
import importlib
import inspect
import types
import unittest

FUNCTIONS = {
    "partclones.texts.lines": ["is_line(value)", "checked_text(text)"],
    "partclones.texts.matching": ["matched(old, new)"],
    "partclones.texts.edits": ["text_edits(old, new)", "apply_edits(old, edits)", "inverse_edits(edits)"],
    "partclones.texts.chunks": ["text_chunks(base, ours, theirs)"],
    "partclones.texts.mergetext": ["merge_texts(base, ours, theirs)"],
    "partclones.trees.paths": ["is_path(value)", "below(path, folder)"],
    "partclones.trees.tree": ["checked_tree(tree)", "files_of(tree)", "tree_of(files)"],
    "partclones.trees.changes": [
        "tree_changes(old, new)",
        "apply_changes(tree, changes)",
        "undo_changes(changes)",
    ],
    "partclones.trees.puts": ["puts_between(old, new)", "put_tree(tree, puts)"],
    "partclones.trees.choose": ["chosen_text(base, texts)", "chosen_tree(base, trees)"],
    "partclones.trees.mergetree": ["merge_trees(base, ours, theirs)"],
    "partclones.trees.narrow": ["narrowed(tree, folders)"],
    "partclones.webs.names": ["is_name(value)"],
    "partclones.webs.bases": [
        "maximal(order, names)",
        "common(order, ones, others)",
        "group_bases(order, ones, others)",
        "merge_bases(order, one, other)",
    ],
    "partclones.webs.restrict": ["restricted(order, names)"],
    "partclones.webs.baselists": ["base_lists(order, ones, others)"],
    "partclones.webs.basetree": ["base_tree(order, trees, ones, others)"],
    "partclones.closed.gaps": ["gaps(order, names)", "first_gap(order, names)", "is_closed(order, names)"],
    "partclones.closed.closure": ["rounds(order, names)", "closure(order, names)"],
    "partclones.closed.lot": ["joined(first, *others)"],
    "partclones.closed.steps": ["derivation(order, names)", "takes_steps(order, names, steps)"],
    "partclones.closed.table": ["table(order, names)", "takes_table(order, names, rows)"],
    "partclones.closed.peel": ["is_free(order, names, name)", "peel(order, names, kept, ranking)"],
    "partclones.histories.origins": ["line_origins(name, text, elders)"],
    "partclones.histories.tally": ["moved_tally(order, tally, names)", "reach_of(order, tally, names)"],
    "partclones.histories.inverse": ["group_reaches(order, tally)", "tally_from(order, reaches)"],
    "partclones.histories.core": ["core(history, names)", "thinned(history, names)"],
    "partclones.histories.narrowing": ["narrowed_history(history, folders)"],
    "partclones.histories.ask": ["answer(history, question)"],
    "partclones.histories.listing": ["listing(history, *names, paths=True)"],
    "partclones.scripts.step": ["step(history, command)"],
    "partclones.scripts.run": ["run(history, commands)"],
    "partclones.scripts.writing": ["script_lines(commands)"],
    "partclones.scripts.reading": ["read_script(lines)"],
    "partclones.scripts.fresh": ["fresh_names(taken, count)", "fresh_path(history)"],
    "partclones.scripts.desk": ["tried(desk, moves)"],
    "partclones.scripts.worlds": ["two_worlds(history, names)"],
    "partclones.scripts.judge": ["takes_worlds(history, names, first, second, commands)"],
    "partclones.scripts.parting": ["parting(first, second)"],
    "partclones.vault.chain": [
        "cells_for(count)",
        "laid(strings, places)",
        "read_chain(disk, place)",
        "chain_cells(disk, place)",
    ],
    "partclones.vault.root": ["root_of(disk)"],
    "partclones.vault.space": ["cells_needed(records)"],
    "partclones.parties.coding": ["history_records(history)"],
    "partclones.parties.decoding": ["history_of(records)"],
    "partclones.parties.packs": ["pack(trees, names, have)", "unpack(entries, have)"],
    "partclones.parties.letters": ["letter_strings(letter)"],
    "partclones.parties.reading": ["read_letter(strings)"],
    "partclones.fleet.audit": ["complaints(fleet)", "settle(fleet)"],
}

METHODS = {
    ("partclones.webs.order", "Order"): [
        "__init__(self)",
        "put(self, name, parents)",
        "__iter__(self)",
        "names(self)",
        "has(self, name)",
        "under(self, name)",
        "is_under(self, low, high)",
        "nearest(self, name)",
        "checked(self, names)",
    ],
    ("partclones.closed.lot", "Lot"): [
        "__init__(self, order, names)",
        "__contains__(self, name)",
        "__iter__(self)",
        "__eq__(self, other)",
        "__and__(self, other)",
        "__or__(self, other)",
        "within(self, other)",
        "plus(self, name)",
        "minus(self, name)",
    ],
    ("partclones.histories.history", "History"): [
        "__init__(self)",
        "__contains__(self, name)",
        "names(self)",
        "commit(self, name, parents, tree)",
        "merge(self, name, one, other)",
        "pick(self, name, base, change, onto)",
        "tree(self, name)",
        "origins(self, name)",
        "is_under(self, low, high)",
        "bases(self, one, other)",
        "base(self, one, other)",
        "reach(self, names)",
        "lead(self, one, other)",
        "order(self)",
        "tally(self)",
        "facts(self)",
        "copied(self)",
    ],
    ("partclones.vault.disk", "Disk"): [
        "__init__(self, cells)",
        "read(self, at)",
        "write(self, at, items)",
        "flush(self)",
        "cut_after(self, count)",
        "fall(self, mask)",
    ],
    ("partclones.scripts.desk", "Desk"): [
        "__init__(self, history=None)",
        "__call__(self, command)",
        "undo(self)",
        "redo(self)",
        "trial(self)",
        "facts(self)",
    ],
    ("partclones.vault.vault", "Vault"): [
        "known(self)",
        "read(self, key)",
        "commit(self, changes)",
        "used(self)",
        "free(self)",
    ],
    ("partclones.parties.party", "Party"): ["kept(self)", "facts(self)", "ask(self, question)", "status(self)"],
    ("partclones.parties.clone", "Clone"): [
        "commit(self, parents, tree)",
        "merge(self, one, other)",
        "pick(self, base, change, onto)",
        "keep(self, names)",
        "pull(self, want, moves, *back)",
        "again(self)",
        "take(self, strings)",
        "made(self)",
        "status(self)",
    ],
    ("partclones.parties.hub", "Hub"): ["take(self, strings)", "forget(self)", "record(self, letter)", "status(self)"],
    ("partclones.fleet.net", "Net"): [
        "__init__(self)",
        "send(self, sender, receiver, strings)",
        "waiting(self)",
        "look(self, serial)",
        "deliver(self, serial)",
        "double(self, serial)",
        "lose(self, serial)",
    ],
    ("partclones.fleet.fleet", "Fleet"): [
        "__init__(self, clones=2)",
        "do(self, event)",
        "clone_letters(self)",
        "clone(self, letter)",
        "hub(self)",
        "waiting(self)",
        "full(self)",
    ],
}

# Properties, and whether they can be assigned.
PROPERTIES = {
    ("partclones.vault.disk", "Disk"): [("cells", False), ("queued", False), ("fuse", True)],
    ("partclones.scripts.desk", "Desk"): [("depth", False)],
    ("partclones.parties.party", "Party"): [("marks", False)],
    ("partclones.parties.clone", "Clone"): [("letter", False), ("number", False)],
}

# Methods that are called off the class, with the kinds of their decorators.
CLASS_CALLS = {
    ("partclones.closed.lot", "Lot"): [(classmethod, "over(cls, order, names)")],
    ("partclones.histories.history", "History"): [(staticmethod, "of(facts)")],
    ("partclones.vault.vault", "Vault"): [(staticmethod, "fresh(disk)"), (staticmethod, "opened(disk)")],
    ("partclones.parties.clone", "Clone"): [(staticmethod, "fresh(letter, disk)"), (staticmethod, "opened(disk)")],
    ("partclones.parties.hub", "Hub"): [(staticmethod, "fresh(disk)"), (staticmethod, "opened(disk)")],
}

GENERATORS = ["base_lists", "gaps", "rounds", "peel"]

EXAMPLES = """
>>> from partclones.texts.matching import matched
>>> matched(["a", "b", "c"], ["b", "x", "a", "c"])
[(1, 0), (2, 3)]

>>> from partclones.texts.edits import inverse_edits, text_edits
>>> text_edits(["a", "b", "c"], ["b", "x", "c", "d"])
[(0, ('a',), ()), (2, (), ('x',)), (3, (), ('d',))]
>>> inverse_edits(text_edits(["a", "b", "c"], ["b", "x", "c", "d"]))
[(0, (), ('a',)), (1, ('x',), ()), (3, ('d',), ())]

>>> from partclones.texts.mergetext import merge_texts
>>> merge_texts(["a", "b", "c"], ["a", "x", "c"], ["a", "b", "c", "d"])
(['a', 'x', 'c', 'd'], 0)
>>> merge_texts(["a", "b"], ["a", "x"], ["a", "y"])
(['a', '<<<<<<<', 'x', '|||||||', 'b', '=======', 'y', '>>>>>>>'], 1)

>>> from partclones.webs.order import Order
>>> from partclones.webs.bases import group_bases, merge_bases
>>> order = Order()
>>> order.put("r", [])
>>> order.put("a", ["r"])
>>> order.put("b", ["r"])
>>> order.put("c", ["a", "b"])
>>> order.put("d", ["b", "a"])
>>> [merge_bases(order, "c", "d"), merge_bases(order, "a", "b"), merge_bases(order, "a", "d")]
[['a', 'b'], ['r'], ['a']]
>>> group_bases(order, ["a", "b"], ["b"])
['b']

>>> from partclones.closed.closure import closure, rounds
>>> from partclones.closed.gaps import first_gap
>>> [first_gap(order, ["d", "c"]), closure(order, ["d", "c"]), list(rounds(order, ["d", "c"]))]
[('c', 'd', 'a'), ['a', 'b', 'c', 'd', 'r'], [['c', 'd'], ['a', 'b', 'c', 'd'], ['a', 'b', 'c', 'd', 'r']]]

>>> from partclones.histories.origins import line_origins
>>> line_origins("n", ["a", "x", "c"], [(["a", "b"], ["r", "s"]), (["c"], ["t"])])
['r', 'n', 't']

>>> from partclones.histories.history import History
>>> history = History()
>>> history.commit("r", [], {"f": ["a", "b", "c"]})
>>> history.commit("x", ["r"], {"f": ["a", "b", "c", "d"]})
>>> history.commit("y", ["r"], {"f": ["b", "c"]})
>>> history.merge("m", "x", "y")
[]
>>> [history.tree("m"), history.origins("m"), history.reach(["m"]), history.lead("x", "y")]
[{'f': ['b', 'c', 'd']}, {'f': ['r', 'r', 'x']}, 4, 1]

>>> from partclones.histories.core import core
>>> core(history, ["m", "y"])
((('m', ('y',), (('f', ('b', 'c', 'd')),), (('f', ('r', 'r', 'x')),)), ('y', (), (('f', ('b', 'c')),), (('f', ('r', 'r')),))), ((('m',), 1), (('y',), 1)))

>>> from partclones.histories.listing import listing
>>> [listing(history, "y", "m"), listing(history, "m", paths=False)]
[['m         4  1   3', 'y         2  1   2'], ['m         4   3']]

>>> from partclones.scripts.run import run
>>> run(history, [("keep", ("x", "y")), ("ask", ("lead", "x", "y")), ("merge", "k", "x", "r")])[1]
[('kept', ('r', 'x', 'y')), ('answer', 1), ('merged', ())]
>>> run(history, [("keep", ("x", "m")), ("ask", ("reach", "m")), ("merge", "k", "x", "r")])[1]
[('kept', ('m', 'x')), ('answer', 4), ('refused', 'unknown')]

>>> from partclones.scripts.writing import script_lines
>>> script_lines([("commit", "a1", ("r", "s"), (("f", ("x", "")), ("g", None))), ("ask", ("under", "r", "a1"))])
['commit a1 on r s', 'put f', ': x', ': ', 'cut g', 'ask under r a1']

>>> from partclones.scripts.run import run
>>> from partclones.scripts.worlds import two_worlds
>>> first, second, commands = two_worlds(history, ["x", "y"])
>>> commands
[('commit', 'x0', ('x',), (('f', None), ('p0', ('kept',)))), ('commit', 'x1', ('y',), (('f', None),)), ('merge', 'x2', 'x0', 'x1'), ('ask', ('show', 'x2'))]
>>> [run(first, commands)[1][3], run(second, commands)[1][3]]
[('answer', ()), ('answer', (('p0', ('kept',)),))]

>>> from partclones.parties.letters import letter_strings
>>> letter_strings(("request", "a", 3, ("b1",), (("a2", ("b1",), (("f", ("x",)), ("g", None))),), ("main",), (), ("r1",)))
['request', 'a', '3', '1', 'b1', '1', 'a2', '1', 'b1', '2', 'f', 'put', '1', 'x', 'g', 'cut', '1', 'main', '0', '1', 'r1']
"""


class InterfaceTest(unittest.TestCase):
    def check(self, found, listed, module):
        self.assertIs(type(found), types.FunctionType, listed)
        self.assertEqual(found.__module__, module)
        name, parameters = listed[:-1].split("(")
        self.assertEqual(found.__name__, name)
        shown = [str(parameter) for parameter in inspect.signature(found).parameters.values()]
        self.assertEqual(shown, parameters.split(", "))
        self.assertEqual(inspect.isgeneratorfunction(found), name in GENERATORS)

    def test_functions(self):
        for module, lines in FUNCTIONS.items():
            for listed in lines:
                with self.subTest(f"{module} {listed}"):
                    found = vars(importlib.import_module(module))[listed.split("(")[0]]
                    self.check(found, listed, module)

    def test_methods_stand_in_the_class_itself(self):
        for (module, name), lines in METHODS.items():
            kind = vars(importlib.import_module(module))[name]
            self.assertEqual(kind.__module__, module)
            for listed in lines:
                with self.subTest(f"{name} {listed}"):
                    self.check(vars(kind)[listed.split("(")[0]], listed, module)

    def test_static_and_class_methods_stand_in_the_class_itself(self):
        for (module, name), lines in CLASS_CALLS.items():
            kind = vars(importlib.import_module(module))[name]
            for decorator, listed in lines:
                with self.subTest(f"{name} {listed}"):
                    found = vars(kind)[listed.split("(")[0]]
                    self.assertIs(type(found), decorator)
                    self.check(found.__func__, listed, module)

    def test_properties_stand_in_the_class_itself(self):
        for (module, name), lines in PROPERTIES.items():
            kind = vars(importlib.import_module(module))[name]
            for listed, assigned in lines:
                with self.subTest(f"{name} {listed}"):
                    found = vars(kind)[listed]
                    self.assertIs(type(found), property)
                    self.check(found.fget, f"{listed}(self)", module)
                    self.assertEqual(found.fset is not None, assigned)

    def test_clones_and_the_hub_are_parties(self):
        party = importlib.import_module("partclones.parties.party").Party
        for module, name in (("partclones.parties.clone", "Clone"), ("partclones.parties.hub", "Hub")):
            self.assertEqual(vars(importlib.import_module(module))[name].__bases__, (party,))

    def test_class_values(self):
        self.assertEqual(vars(importlib.import_module("partclones.vault.disk").Disk)["WIDTH"], 8)

    def test_arguments_may_be_passed_by_name(self):
        from partclones.webs.basetree import base_tree
        from partclones.webs.order import Order

        order = Order()
        order.put(name="a", parents=[])
        self.assertIs(order.is_under(low="a", high="a"), True)
        self.assertEqual(base_tree(order=order, trees={"a": {"f": []}}, ones=["a"], others=["a"]), {"f": []})

    def test_examples(self):
        test = doctest.DocTestParser().get_doctest(EXAMPLES, {}, "interface", "DOC.md", 0)
        result = doctest.DocTestRunner(verbose=False).run(test)
        self.assertEqual((result.failed, result.attempted), (0, EXAMPLES.count("\n>>> ")))


if __name__ == "__main__":
    unittest.main()
