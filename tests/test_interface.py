"""The interface: names, parameters, kinds, and the examples as they stand there."""

import doctest
import importlib
import inspect
import types
import unittest

FUNCTIONS = {
    "partclones.texts.lines": ["is_line(value)", "checked_text(text)"],
    "partclones.texts.matching": ["matched(old, new)"],
    "partclones.texts.edits": ["text_edits(old, new)", "apply_edits(old, edits)", "inverse_edits(edits)"],
    "partclones.texts.chunks": ["text_chunks(base, ours, theirs)"],
    "partclones.texts.mergetext": ["merge_texts(base, ours, theirs)"],
    "partclones.trees.paths": ["is_path(value)", "below(path, folder)"],
    "partclones.trees.tree": ["checked_tree(tree)", "files_of(tree)", "tree_of(files)"],
    "partclones.trees.changes": [
        "tree_changes(old, new)",
        "apply_changes(tree, changes)",
        "undo_changes(changes)",
    ],
    "partclones.trees.puts": ["puts_between(old, new)", "put_tree(tree, puts)"],
    "partclones.trees.choose": ["chosen_text(base, texts)", "chosen_tree(base, trees)"],
    "partclones.trees.mergetree": ["merge_trees(base, ours, theirs)"],
    "partclones.trees.narrow": ["narrowed(tree, folders)"],
    "partclones.webs.names": ["is_name(value)"],
    "partclones.webs.bases": [
        "maximal(order, names)",
        "common(order, ones, others)",
        "group_bases(order, ones, others)",
        "merge_bases(order, one, other)",
    ],
    "partclones.webs.restrict": ["restricted(order, names)"],
    "partclones.webs.baselists": ["base_lists(order, ones, others)"],
    "partclones.webs.basetree": ["base_tree(order, trees, ones, others)"],
}

METHODS = {
    ("partclones.webs.order", "Order"): [
        "__init__(self)",
        "put(self, name, parents)",
        "__iter__(self)",
        "names(self)",
        "has(self, name)",
        "under(self, name)",
        "is_under(self, low, high)",
        "nearest(self, name)",
        "checked(self, names)",
    ],
}

GENERATORS = ["base_lists"]

EXAMPLES = """
>>> from partclones.texts.matching import matched
>>> matched(["a", "b", "c"], ["b", "x", "a", "c"])
[(1, 0), (2, 3)]

>>> from partclones.texts.edits import inverse_edits, text_edits
>>> text_edits(["a", "b", "c"], ["b", "x", "c", "d"])
[(0, ('a',), ()), (2, (), ('x',)), (3, (), ('d',))]
>>> inverse_edits(text_edits(["a", "b", "c"], ["b", "x", "c", "d"]))
[(0, (), ('a',)), (1, ('x',), ()), (3, ('d',), ())]

>>> from partclones.texts.mergetext import merge_texts
>>> merge_texts(["a", "b", "c"], ["a", "x", "c"], ["a", "b", "c", "d"])
(['a', 'x', 'c', 'd'], 0)
>>> merge_texts(["a", "b"], ["a", "x"], ["a", "y"])
(['a', '<<<<<<<', 'x', '|||||||', 'b', '=======', 'y', '>>>>>>>'], 1)

>>> from partclones.webs.order import Order
>>> from partclones.webs.bases import group_bases, merge_bases
>>> order = Order()
>>> order.put("r", [])
>>> order.put("a", ["r"])
>>> order.put("b", ["r"])
>>> order.put("c", ["a", "b"])
>>> order.put("d", ["b", "a"])
>>> [merge_bases(order, "c", "d"), merge_bases(order, "a", "b"), merge_bases(order, "a", "d")]
[['a', 'b'], ['r'], ['a']]
>>> group_bases(order, ["a", "b"], ["b"])
['b']
"""


class InterfaceTest(unittest.TestCase):
    def check(self, found, listed, module):
        self.assertIs(type(found), types.FunctionType, listed)
        self.assertEqual(found.__module__, module)
        name, parameters = listed[:-1].split("(")
        self.assertEqual(found.__name__, name)
        self.assertEqual(list(inspect.signature(found).parameters), parameters.split(", "))
        self.assertEqual(inspect.isgeneratorfunction(found), name in GENERATORS)

    def test_functions(self):
        for module, lines in FUNCTIONS.items():
            for listed in lines:
                with self.subTest(f"{module} {listed}"):
                    found = vars(importlib.import_module(module))[listed.split("(")[0]]
                    self.check(found, listed, module)

    def test_methods_stand_in_the_class_itself(self):
        for (module, name), lines in METHODS.items():
            kind = vars(importlib.import_module(module))[name]
            self.assertEqual(kind.__module__, module)
            for listed in lines:
                with self.subTest(f"{name} {listed}"):
                    self.check(vars(kind)[listed.split("(")[0]], listed, module)

    def test_arguments_may_be_passed_by_name(self):
        from partclones.webs.basetree import base_tree
        from partclones.webs.order import Order

        order = Order()
        order.put(name="a", parents=[])
        self.assertIs(order.is_under(low="a", high="a"), True)
        self.assertEqual(base_tree(order=order, trees={"a": {"f": []}}, ones=["a"], others=["a"]), {"f": []})

    def test_examples(self):
        test = doctest.DocTestParser().get_doctest(EXAMPLES, {}, "interface", "DOC.md", 0)
        result = doctest.DocTestRunner(verbose=False).run(test)
        self.assertEqual((result.failed, result.attempted), (0, 18))


if __name__ == "__main__":
    unittest.main()
