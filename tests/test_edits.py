"""Points 10 and 11: edits, applying and inverting them."""

import unittest

from partclones.errors import BadEdit
from partclones.texts.edits import apply_edits, inverse_edits, text_edits
from partclones.texts.matching import matched
from support import small_texts


class TextEditsTest(unittest.TestCase):
    def test_example(self):
        self.assertEqual(
            text_edits(["a", "b", "c"], ["b", "x", "c", "d"]),
            [(0, ("a",), ()), (2, (), ("x",)), (3, (), ("d",))],
        )

    def test_no_pair(self):
        self.assertEqual(text_edits([], []), [])
        self.assertEqual(text_edits(["a"], []), [(0, ("a",), ())])
        self.assertEqual(text_edits([], ["a", "b"]), [(0, (), ("a", "b"))])
        self.assertEqual(text_edits(["a", "b"], ["x"]), [(0, ("a", "b"), ("x",))])

    def test_start_between_and_end(self):
        self.assertEqual(text_edits(["b"], ["a", "b"]), [(0, (), ("a",))])
        self.assertEqual(text_edits(["a", "c"], ["a", "b", "c"]), [(1, (), ("b",))])
        self.assertEqual(text_edits(["a"], ["a", "b"]), [(1, (), ("b",))])
        self.assertEqual(text_edits(["a", "b", "c", "d"], ["a", "x", "y", "d"]), [(1, ("b", "c"), ("x", "y"))])

    def test_one_text_as_both_arguments(self):
        text = ["a", "a", "b", ""]
        self.assertEqual(text_edits(text, text), [])

    def test_kinds(self):
        for place, removed, added in text_edits(["a", "b", "c"], ["b", "x"]):
            self.assertEqual((type(place), type(removed), type(added)), (int, tuple, tuple))

    def test_stretches_are_those_of_the_matching(self):
        for old in small_texts("ab", 4):
            for new in small_texts("ab", 3):
                expected = []
                pairs = [(-1, -1), *matched(old, new), (len(old), len(new))]
                for (i, j), (k, m) in zip(pairs, pairs[1:]):
                    if k > i + 1 or m > j + 1:
                        expected.append((i + 1, tuple(old[i + 1 : k]), tuple(new[j + 1 : m])))
                self.assertEqual(text_edits(old, new), expected)


class ApplyTest(unittest.TestCase):
    def refused(self, old, edits):
        with self.assertRaises(BadEdit) as caught:
            apply_edits(old, edits)
        return caught.exception.place

    def test_leads_from_old_to_new(self):
        texts = small_texts("ab", 4)
        for old in texts:
            for new in texts:
                self.assertEqual(apply_edits(old, text_edits(old, new)), new)

    def test_start_between_and_end(self):
        old = ["a", "b", "c"]
        self.assertEqual(apply_edits(old, [(0, (), ("x",))]), ["x", "a", "b", "c"])
        self.assertEqual(apply_edits(old, [(2, (), ("x", "y"))]), ["a", "b", "x", "y", "c"])
        self.assertEqual(apply_edits(old, [(3, (), ("x",))]), ["a", "b", "c", "x"])
        self.assertEqual(apply_edits(old, [(2, ("c",), ())]), ["a", "b"])
        self.assertEqual(apply_edits(old, [(0, ("a", "b", "c"), ())]), [])
        self.assertEqual(apply_edits(old, [(1, ("b",), ("b",))]), old)

    def test_edits_that_touch(self):
        old = ["a", "b"]
        self.assertEqual(apply_edits(old, [(0, ("a",), ("x",)), (1, ("b",), ("y",))]), ["x", "y"])
        self.assertEqual(apply_edits(old, [(1, (), ("x",)), (1, (), ("y",)), (1, ("b",), ())]), ["a", "x", "y"])

    def test_no_edits_give_a_new_list(self):
        old = ["a"]
        result = apply_edits(old, [])
        self.assertEqual(result, ["a"])
        self.assertIsNot(result, old)

    def test_result_may_be_longer_than_a_text(self):
        self.assertEqual(len(apply_edits(["a"] * 40, [(40, (), ("b",) * 30), (40, (), ("c",) * 30)])), 100)

    def test_added_strings_are_not_checked(self):
        self.assertEqual(apply_edits([], [(0, (), ("NO LINE",))]), ["NO LINE"])

    def test_items_that_are_no_edits(self):
        self.assertEqual(self.refused(["a"], [(-1, (), ("x",))]), 0)
        self.assertEqual(self.refused(["a"], [(401, (), ("x",))]), 0)
        self.assertEqual(self.refused(["a"], [(0, (), ())]), 0)
        self.assertEqual(self.refused(["a"], [(0, ("a",), ()), (1, (), ())]), 1)

    def test_place_from_the_end_is_refused(self):
        self.assertEqual(self.refused(["a", "b"], [(-1, ("b",), ())]), 0)

    def test_out_of_order(self):
        old = ["a", "b", "c"]
        self.assertEqual(self.refused(old, [(1, ("b",), ()), (0, ("a",), ())]), 1)
        self.assertEqual(self.refused(old, [(0, ("a", "b"), ()), (1, (), ("x",))]), 1)
        self.assertEqual(self.refused(old, [(0, ("a",), ()), (2, (), ("x",)), (1, ("b",), ())]), 2)

    def test_beyond_the_end(self):
        self.assertEqual(self.refused(["a"], [(2, (), ("x",))]), 0)
        self.assertEqual(self.refused([], [(1, (), ("x",))]), 0)
        self.assertEqual(self.refused(["a"], [(1, ("a",), ())]), 0)
        self.assertEqual(self.refused(["a", "b"], [(1, ("b", "c"), ())]), 0)

    def test_removed_lines_that_do_not_stand_there(self):
        old = ["a", "b", "c"]
        self.assertEqual(self.refused(old, [(0, ("b",), ())]), 0)
        self.assertEqual(self.refused(old, [(0, ("a",), ()), (1, ("b", "b"), ()), (9, (), ())]), 1)

    def test_first_faulty_edit_counts(self):
        old = ["a", "b"]
        self.assertEqual(self.refused(old, [(0, ("a",), ("x",)), (1, ("x",), ()), (0, (), ())]), 1)
        self.assertEqual(self.refused(old, [(0, (), ()), (-1, (), ("x",))]), 0)


class InverseTest(unittest.TestCase):
    def refused(self, edits):
        with self.assertRaises(BadEdit) as caught:
            inverse_edits(edits)
        return caught.exception.place

    def test_example(self):
        edits = text_edits(["a", "b", "c"], ["b", "x", "c", "d"])
        self.assertEqual(inverse_edits(edits), [(0, (), ("a",)), (1, ("x",), ()), (3, ("d",), ())])

    def test_leads_back(self):
        texts = small_texts("ab", 4)
        for old in texts:
            for new in texts:
                self.assertEqual(apply_edits(new, inverse_edits(text_edits(old, new))), old)

    def test_shift_counts_the_edits_before(self):
        edits = [(0, (), ("x", "y")), (3, ("a", "b", "c"), ("z",)), (6, ("d",), ())]
        self.assertEqual(
            inverse_edits(edits),
            [(0, ("x", "y"), ()), (5, ("z",), ("a", "b", "c")), (6, (), ("d",))],
        )

    def test_no_edits(self):
        self.assertEqual(inverse_edits([]), [])

    def test_place_may_be_greater_than_400(self):
        self.assertEqual(
            inverse_edits([(399, (), ("x", "y")), (400, (), ("z",))]), [(399, ("x", "y"), ()), (402, ("z",), ())]
        )

    def test_items_that_are_no_edits(self):
        self.assertEqual(self.refused([(-1, (), ("x",))]), 0)
        self.assertEqual(self.refused([(401, (), ("x",))]), 0)
        self.assertEqual(self.refused([(0, (), ())]), 0)
        self.assertEqual(self.refused([(0, ("a",), ()), (400, (), ("x",)), (401, (), ("x",))]), 2)
        self.assertEqual(self.refused([(0, ("a",), ()), (5, (), ())]), 1)

    def test_out_of_order(self):
        self.assertEqual(self.refused([(1, ("b",), ()), (0, ("a",), ())]), 1)
        self.assertEqual(self.refused([(0, ("a", "b"), ()), (1, (), ("x",)), (0, (), ())]), 1)
        self.assertEqual(inverse_edits([(0, ("a", "b"), ()), (2, (), ("x",))]), [(0, (), ("a", "b")), (0, ("x",), ())])

    def test_no_text_is_needed(self):
        self.assertEqual(inverse_edits([(400, ("q",), ())]), [(400, (), ("q",))])


if __name__ == "__main__":
    unittest.main()
