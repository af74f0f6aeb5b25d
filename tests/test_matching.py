"""Point 9: the matching of two texts."""

import functools
import unittest

from partclones.texts.matching import matched
from support import small_texts


def defined_matching(old, new):
    """The walk of point 9, with L worked out straight from its definition."""

    @functools.lru_cache(None)
    def common(i, j):
        if i == len(old) or j == len(new):
            return 0
        skipped = max(common(i + 1, j), common(i, j + 1))
        return max(skipped, common(i + 1, j + 1) + 1) if old[i] == new[j] else skipped

    pairs = []
    i = j = 0
    while i < len(old) and j < len(new):
        if old[i] == new[j]:
            pairs.append((i, j))
            i, j = i + 1, j + 1
        elif common(i + 1, j) >= common(i, j + 1):
            i += 1
        else:
            j += 1
    return pairs


def longest_common(old, new):
    """The length of a longest common subsequence, by trying all subsequences."""
    best = 0
    for choice in range(2 ** len(old)):
        picked = [line for at, line in enumerate(old) if choice >> at & 1]
        rest = iter(new)
        if len(picked) > best and all(line in rest for line in picked):
            best = len(picked)
    return best


class MatchingTest(unittest.TestCase):
    def test_example(self):
        self.assertEqual(matched(["a", "b", "c"], ["b", "x", "a", "c"]), [(1, 0), (2, 3)])

    def test_empty_texts(self):
        self.assertEqual(matched([], []), [])
        self.assertEqual(matched(["a"], []), [])
        self.assertEqual(matched([], ["a"]), [])
        self.assertEqual(matched(["a"], ["b"]), [])

    def test_tie_skips_a_line_of_the_old_text(self):
        self.assertEqual(matched(["a", "b"], ["b", "a"]), [(1, 0)])
        self.assertEqual(matched(["a", "b", "c"], ["c", "b", "a"]), [(2, 0)])
        self.assertEqual(matched(["x", "a"], ["y", "a"]), [(1, 1)])

    def test_equal_lines(self):
        self.assertEqual(matched(["a", "a"], ["a"]), [(0, 0)])
        self.assertEqual(matched(["a"], ["a", "a"]), [(0, 0)])
        self.assertEqual(matched(["a", "a", "b", "a"], ["a", "b", "a", "a"]), [(0, 0), (2, 1), (3, 2)])

    def test_one_text_as_both_arguments(self):
        text = ["a", "b", "a", "", "a"]
        self.assertEqual(matched(text, text), [(place, place) for place in range(5)])

    def test_small_texts_against_the_definition(self):
        texts = small_texts("ab", 4) + small_texts("abc", 3)
        for old in texts:
            for new in texts:
                self.assertEqual(matched(old, new), defined_matching(old, new), (old, new))

    def test_longest(self):
        for old in small_texts("abc", 4):
            for new in (["a", "b", "c", "a"], ["c", "c", "a", "b"], ["b", "a", "b"]):
                self.assertEqual(len(matched(old, new)), longest_common(old, new))

    def test_forty_lines(self):
        old = [str(place * 7 % 11) for place in range(40)]
        new = [str(place * 5 % 13) for place in range(40)]
        self.assertEqual(matched(old, new), defined_matching(old, new))


if __name__ == "__main__":
    unittest.main()
