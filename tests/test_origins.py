"""Point 33: the origins of lines."""

import unittest

from partclones.histories.origins import line_origins
from partclones.texts.matching import matched
from support import Chooser


def plain_origins(name, text, elders):
    """The origins, line by line as point 33 says."""
    found = []
    for place in range(len(text)):
        origin = name
        for elder, origins in elders:
            paired = [i for i, j in matched(elder, text) if j == place]
            if paired:
                origin = origins[paired[0]]
                break
        found.append(origin)
    return found


class OriginsTest(unittest.TestCase):
    def test_no_parents(self):
        self.assertEqual(line_origins("n", ["a", "b", "a"], []), ["n", "n", "n"])

    def test_empty_texts(self):
        self.assertEqual(line_origins("n", [], []), [])
        self.assertEqual(line_origins("n", [], [(["a"], ["r"])]), [])
        self.assertEqual(line_origins("n", ["a"], [([], [])]), ["n"])

    def test_the_first_parent_that_pairs_the_line_decides(self):
        one, other = (["a", "b"], ["r", "s"]), (["b", "c", "a"], ["t", "u", "v"])
        self.assertEqual(line_origins("n", ["a", "b", "c"], [one, other]), ["r", "s", "u"])
        self.assertEqual(line_origins("n", ["a", "b", "c"], [other, one]), ["r", "t", "u"])
        self.assertEqual(line_origins("n", ["c", "b"], [one, other]), ["u", "s"])

    def test_equal_lines_are_paired_in_order(self):
        elder = (["a", "a", "b"], ["r", "s", "t"])
        self.assertEqual(line_origins("n", ["a", "b", "a"], [elder]), ["r", "t", "n"])
        self.assertEqual(line_origins("n", ["a", "a", "a"], [elder]), ["r", "s", "n"])
        self.assertEqual(line_origins("n", ["b", "a", "a"], [elder]), ["n", "r", "s"])
        self.assertEqual(line_origins("n", ["a"], [elder]), ["r"])

    def test_a_matching_that_skips_a_line_leaves_it_to_the_next_parent(self):
        elders = [(["x", "a"], ["p", "q"]), (["a", "x"], ["r", "s"])]
        self.assertEqual(line_origins("n", ["a", "x"], elders), ["q", "s"])
        self.assertEqual(line_origins("n", ["a", "x"], elders[::-1]), ["r", "s"])

    def test_many_texts_against_the_definition(self):
        chooser = Chooser(5)
        for _ in range(300):
            elders = []
            for number in range(chooser.below(4)):
                lines = [chooser.one_of("abc") for _ in range(chooser.below(6))]
                elders.append((lines, [f"v{number}{at}" for at in range(len(lines))]))
            text = [chooser.one_of("abcd") for _ in range(chooser.below(7))]
            self.assertEqual(line_origins("n", text, elders), plain_origins("n", text, elders))

    def test_arguments_and_results_stay_apart(self):
        text, elders = ["a", "x"], [(["a"], ["r"]), (["x"], ["s"])]
        result = line_origins("n", text, elders)
        self.assertEqual((text, elders), (["a", "x"], [(["a"], ["r"]), (["x"], ["s"])]))
        result.clear()
        self.assertEqual(elders, [(["a"], ["r"]), (["x"], ["s"])])
        result = line_origins("n", text, elders)
        elders[0][1][0] = "spoilt"
        self.assertEqual(result, ["r", "s"])


if __name__ == "__main__":
    unittest.main()
