"""Point 13: the merge of three texts."""

import unittest

from partclones.texts.chunks import text_chunks
from partclones.texts.mergetext import merge_texts
from support import small_texts


class MergeTextsTest(unittest.TestCase):
    def test_examples(self):
        self.assertEqual(
            merge_texts(["a", "b", "c"], ["a", "x", "c"], ["a", "b", "c", "d"]), (["a", "x", "c", "d"], 0)
        )
        self.assertEqual(
            merge_texts(["a", "b"], ["a", "x"], ["a", "y"]),
            (["a", "<<<<<<<", "x", "|||||||", "b", "=======", "y", ">>>>>>>"], 1),
        )

    def test_one_text_in_all_three_places(self):
        for text in ([], ["a"], ["a", "a", "b"]):
            merged, clashes = merge_texts(text, text, text)
            self.assertEqual((merged, clashes), (text, 0))
            self.assertIsNot(merged, text)

    def test_both_sides_made_the_same_change(self):
        self.assertEqual(merge_texts(["a"], ["b"], ["b"]), (["b"], 0))
        self.assertEqual(merge_texts(["a"], [], []), ([], 0))
        self.assertEqual(merge_texts([], ["x", "y"], ["x", "y"]), (["x", "y"], 0))

    def test_only_our_side_changed(self):
        self.assertEqual(merge_texts(["a"], ["b"], ["a"]), (["b"], 0))
        self.assertEqual(merge_texts(["a"], [], ["a"]), ([], 0))

    def test_only_their_side_changed(self):
        self.assertEqual(merge_texts(["a"], ["a"], ["b", "c"]), (["b", "c"], 0))
        self.assertEqual(merge_texts(["a"], ["a"], []), ([], 0))

    def test_clash_with_empty_stretches(self):
        self.assertEqual(
            merge_texts([], ["x"], ["y"]), (["<<<<<<<", "x", "|||||||", "=======", "y", ">>>>>>>"], 1)
        )
        self.assertEqual(
            merge_texts(["b"], [], ["y"]), (["<<<<<<<", "|||||||", "b", "=======", "y", ">>>>>>>"], 1)
        )
        self.assertEqual(
            merge_texts(["b"], ["x"], []), (["<<<<<<<", "x", "|||||||", "b", "=======", ">>>>>>>"], 1)
        )

    def test_each_clash_is_counted(self):
        merged, clashes = merge_texts(["1", "k", "2", "m", "3"], ["a", "k", "b", "m", "3"], ["c", "k", "d", "m", "e"])
        self.assertEqual(clashes, 2)
        self.assertEqual(
            merged,
            [
                *["<<<<<<<", "a", "|||||||", "1", "=======", "c", ">>>>>>>", "k"],
                *["<<<<<<<", "b", "|||||||", "2", "=======", "d", ">>>>>>>", "m", "e"],
            ],
        )

    def test_more_than_forty_lines(self):
        ours = [f"o{place}" for place in range(40)]
        theirs = [f"t{place}" for place in range(40)]
        base = [f"b{place}" for place in range(40)]
        merged, clashes = merge_texts(base, ours, theirs)
        self.assertEqual((len(merged), clashes), (124, 1))
        self.assertEqual(merge_texts(["a"], ["x"] * 39 + ["a"], ["a"] + ["y"] * 39)[1], 0)
        self.assertEqual(len(merge_texts(["a"], ["x"] * 39 + ["a"], ["a"] + ["y"] * 39)[0]), 79)

    def test_clash_lines_are_lines_like_others(self):
        text = ["<<<<<<<", "x", "|||||||", "=======", "y", ">>>>>>>"]
        self.assertEqual(merge_texts([], text, []), (text, 0))

    def test_small_texts_chunk_by_chunk(self):
        texts = small_texts("ab", 3)
        for base in texts:
            for ours in texts:
                for theirs in texts:
                    self.check_chunk_by_chunk(base, ours, theirs)

    def check_chunk_by_chunk(self, base, ours, theirs):
        lines = []
        clashes = 0
        for kind, b, x, y in text_chunks(base, ours, theirs):
            if kind == "same" or x == y:
                lines += x
            elif y == b:
                lines += x
            elif x == b:
                lines += y
            else:
                clashes += 1
                lines += ["<" * 7, *x, "|" * 7, *b, "=" * 7, *y, ">" * 7]
        self.assertEqual(merge_texts(base, ours, theirs), (lines, clashes))


if __name__ == "__main__":
    unittest.main()
