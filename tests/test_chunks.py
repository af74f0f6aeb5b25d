"""Point 12: the chunks of three texts."""

import unittest

from partclones.texts.chunks import text_chunks
from partclones.texts.matching import matched
from support import small_texts


def same(*lines):
    return ("same", lines, lines, lines)


def defined_runs(base, ours, theirs):
    """The runs of point 12: stable lines, cut apart wherever two neighbours do not follow each other."""
    our_places = dict(matched(base, ours))
    their_places = dict(matched(base, theirs))
    stable = [i for i in range(len(base)) if i in our_places and i in their_places]
    runs = []
    for i in stable:
        follows = (
            i - 1 in stable
            and our_places[i] == our_places[i - 1] + 1
            and their_places[i] == their_places[i - 1] + 1
        )
        if not follows:
            runs.append([])
        runs[-1].append((i, our_places[i], their_places[i]))
    return runs


class ChunksTest(unittest.TestCase):
    def test_empty_texts(self):
        self.assertEqual(text_chunks([], [], []), [])

    def test_one_text_in_all_three_places(self):
        text = ["a", "a", "b"]
        self.assertEqual(text_chunks(text, text, text), [same("a", "a", "b")])

    def test_no_run(self):
        self.assertEqual(text_chunks(["a"], ["b"], ["c"]), [("part", ("a",), ("b",), ("c",))])
        self.assertEqual(text_chunks([], ["b"], []), [("part", (), ("b",), ())])
        self.assertEqual(text_chunks(["a"], [], []), [("part", ("a",), (), ())])
        self.assertEqual(text_chunks([], [], ["c", "d"]), [("part", (), (), ("c", "d"))])

    def test_parts_before_between_and_after(self):
        self.assertEqual(
            text_chunks(["a", "b", "c"], ["x", "a", "c"], ["a", "b", "c", "y"]),
            [
                ("part", (), ("x",), ()),
                same("a"),
                ("part", ("b",), (), ("b",)),
                same("c"),
                ("part", (), (), ("y",)),
            ],
        )

    def test_a_line_is_stable_only_if_both_sides_have_it(self):
        self.assertEqual(
            text_chunks(["a", "b"], ["a"], ["b"]),
            [("part", ("a", "b"), ("a",), ("b",))],
        )

    def test_places_that_are_not_consecutive_in_our_side(self):
        self.assertEqual(
            text_chunks(["a", "b"], ["a", "x", "b"], ["a", "b"]),
            [same("a"), ("part", (), ("x",), ()), same("b")],
        )

    def test_places_that_are_not_consecutive_in_their_side(self):
        self.assertEqual(
            text_chunks(["a", "b"], ["a", "b"], ["a", "x", "y", "b"]),
            [same("a"), ("part", (), (), ("x", "y")), same("b")],
        )

    def test_places_that_are_not_consecutive_in_the_base(self):
        self.assertEqual(
            text_chunks(["a", "x", "b"], ["a", "b"], ["a", "b"]),
            [same("a"), ("part", ("x",), (), ()), same("b")],
        )

    def test_several_runs_of_several_lines(self):
        base = ["a", "b", "c", "d", "e", "f"]
        self.assertEqual(
            text_chunks(base, ["a", "b", "x", "c", "d", "e", "f"], ["a", "b", "c", "d", "y", "f"]),
            [
                same("a", "b"),
                ("part", (), ("x",), ()),
                same("c", "d"),
                ("part", ("e",), ("e",), ("y",)),
                same("f"),
            ],
        )

    def test_longer_texts_against_the_definition(self):
        base = ["a", "b", "a", "c", "b", "a", "b"]
        for ours in small_texts("abx", 5)[::3]:
            for theirs in small_texts("abc", 5)[::17]:
                self.check_against_definition(base, ours, theirs)

    def test_kinds(self):
        for chunk in text_chunks(["a", "b"], ["a", "x", "b"], ["b"]):
            self.assertEqual([type(part) for part in chunk], [str, tuple, tuple, tuple])

    def test_small_texts_against_the_definition(self):
        texts = small_texts("ab", 3)
        for base in texts:
            for ours in texts:
                for theirs in texts:
                    self.check_against_definition(base, ours, theirs)

    def check_against_definition(self, base, ours, theirs):
        runs = defined_runs(base, ours, theirs)
        expected = []
        start = (0, 0, 0)
        for run in [*runs, None]:
            end = (len(base), len(ours), len(theirs)) if run is None else run[0]
            stretches = [tuple(text[a:b]) for text, a, b in zip((base, ours, theirs), start, end)]
            if stretches != [(), (), ()]:
                expected.append(("part", *stretches))
            if run is not None:
                expected.append(same(*[base[i] for i, _, _ in run]))
                start = tuple(place + 1 for place in run[-1])
        self.assertEqual(text_chunks(base, ours, theirs), expected, (base, ours, theirs))
        for at, text in ((1, base), (2, ours), (3, theirs)):
            self.assertEqual([line for chunk in expected for line in chunk[at]], text)


if __name__ == "__main__":
    unittest.main()
