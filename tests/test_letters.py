"""Points 59 to 61: the written form of letters."""

import re
import unittest

from partclones.errors import BadLetter
from partclones.parties.letters import letter_strings
from partclones.parties.reading import read_letter
from support import Chooser, is_plain

EMPTY_REQUEST = ("request", "a", 1, (), (), (), (), ())
EMPTY_ANSWER = ("answer", "h", 10**9, (), (), (), (), ())

# Made versions without parents and puts, with both, with a removal, an empty text and the empty line.
MADE = (
    ("a1", (), ()),
    ("a2", ("a1", "b1"), (("f", None), ("g/1/x", ()), ("h", ("",)), ("put", ("x", "", "<<<<<<<", " cut ")))),
)
FULL_REQUEST = (
    *("request", "c", 20, ("b1", "b2", "c3"), MADE),
    *(("main", "m1", "m2", "m3", "m4", "m5", "m6", "m7"), (("main", "c3"), ("put", "a1")), ("b7", "z", "answer")),
)
SENT = (
    ("b1", None, (("f", ("x", "y")),), (("f", ("b1", "a1")), ("g", ()))),
    ("b2", "b1", (), ()),
    ("b3", "cut", (("f", None), ("k", ("-",) * 40)), (("k", ("b3",) * 40),)),
)
FULL_ANSWER = (
    *("answer", "b", 999999999, (("b1", ()), ("b2", ("b1",)), ("b3", ("b1", "b2"))), SENT),
    *(((("b1",), 1), (("b1", "b2"), 60), ((), 9)), (("main", "b1"), ("m", "b2")), ("dev", "old")),
)
LETTERS = [EMPTY_REQUEST, EMPTY_ANSWER, FULL_REQUEST, FULL_ANSWER]

NAME, PATH, LINE = "[a-z][a-z0-9]{0,5}", "[a-z0-9]{1,6}(/[a-z0-9]{1,6}){0,2}", "[a-z0-9 <=>|-]{0,20}"
KINDS = {"name": NAME, "path": PATH, "line": LINE, "base": f"-|{NAME}", "word": "request|answer", "clone": "[a-h]"}

STRINGS = [
    *["", "a", "b1", "h", "i", "z9z9z9", "abcdefg", "1a", "A", "a_b", "a b", " a", "a ", "a,", "a.", "-", "--", "~"],
    *["f/g", "a/b/c", "a/b/c/d", "/a", "a/", "a//b", "f/abcdefg", "0", "00", "01", "1", "7", "8", "9", "08", "010"],
    *["40", "41", "60", "61", "200", "201", "0200", "999999999", "1000000000", "1000000001", "9999999999"],
    *["10000000000", "9" * 5000, "-1", "+1", " 1", "1 ", "1.0", "1_0", "0x1", "cut", "put", "Cut", "puts", "request"],
    *["answer", "Request", "answers", "", "x" * 20, "x" * 21, "<=>|-", ":", "a:b", "ab", "root", "hub"],
]


def parts(letter):
    """The strings of a letter with their kinds, straight from point 61 and the bounds of the interface."""
    word, clone, number, *rest = letter
    yield word, "word"
    yield clone, "clone"
    yield str(number), (1, 10**9)
    if word == "request":
        lot, made, want, moves, back = rest
        yield from several(lot, 200, names)
        yield from several(made, 200, made_parts)
        yield from several(want, 8, names)
        yield from several(moves, 8, pairs)
        yield from several(back, 8, names)
    else:
        rows, sent, tally, marks, refused = rest
        yield from several(rows, 200, row_parts)
        yield from several(sent, 200, sent_parts)
        yield from several(tally, 200, kind_parts)
        yield from several(marks, 8, pairs)
        yield from several(refused, 8, names)


def several(members, most, inner):
    yield str(len(members)), (0, most)
    for member in members:
        yield from inner(member)


def names(name):
    yield name, "name"


def pairs(pair):
    yield pair[0], "name"
    yield pair[1], "name"


def made_parts(made):
    yield made[0], "name"
    yield from several(made[1], 200, names)
    yield from several(made[2], 200, put_parts)


def put_parts(put):
    yield put[0], "path"
    if put[1] is None:
        yield "cut", ("cut", "put")
    else:
        yield "put", ("cut", "put")
        yield from several(put[1], 40, lines)


def lines(line):
    yield line, "line"


def row_parts(row):
    yield row[0], "name"
    yield from several(row[1], 200, names)


def sent_parts(sent):
    yield sent[0], "name"
    yield "-" if sent[1] is None else sent[1], "base"
    yield from several(sent[2], 200, put_parts)
    yield from several(sent[3], 200, origin_parts)


def origin_parts(origins):
    yield origins[0], "path"
    yield from several(origins[1], 200, names)


def kind_parts(kind):
    yield from several(kind[0], 200, names)
    yield str(kind[1]), (1, 60)


def passes(string, kind):
    """Whether a string may stand where this kind is expected."""
    if isinstance(kind, str):
        return re.fullmatch(KINDS[kind], string) is not None
    if isinstance(kind[0], str):
        return string in kind
    if re.fullmatch("0|[1-9][0-9]*", string) is None or len(string) > 12:
        return False
    return kind[0] <= int(string) <= kind[1]


class WritingTest(unittest.TestCase):
    def test_the_empty_letters(self):
        self.assertEqual(letter_strings(EMPTY_REQUEST), ["request", "a", "1", "0", "0", "0", "0", "0"])
        self.assertEqual(letter_strings(EMPTY_ANSWER), ["answer", "h", "1000000000", "0", "0", "0", "0", "0"])

    def test_a_request(self):
        self.assertEqual(letter_strings(FULL_REQUEST), [
            *["request", "c", "20", "3", "b1", "b2", "c3", "2", "a1", "0", "0", "a2", "2", "a1", "b1", "4"],
            *["f", "cut", "g/1/x", "put", "0", "h", "put", "1", "", "put", "put", "4", "x", "", "<<<<<<<", " cut "],
            *["8", "main", "m1", "m2", "m3", "m4", "m5", "m6", "m7", "2", "main", "c3", "put", "a1"],
            *["3", "b7", "z", "answer"],
        ])

    def test_an_answer(self):
        self.assertEqual(letter_strings(FULL_ANSWER), [
            *["answer", "b", "999999999", "3", "b1", "0", "b2", "1", "b1", "b3", "2", "b1", "b2", "3"],
            *["b1", "-", "1", "f", "put", "2", "x", "y", "2", "f", "2", "b1", "a1", "g", "0", "b2", "b1", "0", "0"],
            *["b3", "cut", "2", "f", "cut", "k", "put", "40", *["-"] * 40, "1", "k", "40", *["b3"] * 40],
            *["3", "1", "b1", "1", "2", "b1", "b2", "60", "0", "9", "2", "main", "b1", "m", "b2", "2", "dev", "old"],
        ])

    def test_against_the_definition(self):
        for letter in LETTERS:
            self.assertEqual(letter_strings(letter), [string for string, _ in parts(letter)])

    def test_the_list_is_new(self):
        letter_strings(FULL_ANSWER).clear()
        self.assertEqual(len(letter_strings(FULL_ANSWER)), len(list(parts(FULL_ANSWER))))


class ReadingTest(unittest.TestCase):
    def fault(self, strings):
        before = list(strings)
        with self.assertRaises(BadLetter) as caught:
            read_letter(strings)
        self.assertEqual(strings, before)
        return caught.exception.place

    def test_each_letter(self):
        for letter in LETTERS:
            strings = letter_strings(letter)
            found = read_letter(strings)
            self.assertEqual(found, letter)
            self.assertTrue(is_plain(found))
            self.assertIs(type(found[2]), int)
            strings.clear()
            self.assertEqual(found, letter)

    def test_cut_off_at_every_place(self):
        for letter in LETTERS:
            strings = letter_strings(letter)
            for length in range(len(strings)):
                self.assertEqual(self.fault(strings[:length]), length)

    def test_one_string_more(self):
        for letter in LETTERS:
            strings = letter_strings(letter)
            for more in ("", "0", "a", "request"):
                self.assertEqual(self.fault([*strings, more]), len(strings))
                self.assertEqual(self.fault([*strings, more, more]), len(strings))

    def test_each_string_at_each_place(self):
        for letter in LETTERS:
            told = list(parts(letter))
            strings = [string for string, _ in told]
            for place, (_, kind) in enumerate(told):
                for string in STRINGS:
                    changed = [*strings[:place], string, *strings[place + 1:]]
                    if not passes(string, kind):
                        self.assertEqual(self.fault(changed), place, (place, string))
                    elif isinstance(kind, str) and kind != "word":
                        self.assertEqual(letter_strings(read_letter(changed)), changed)

    def test_bounds(self):
        name, line = ["a"], ["x"]
        for head, most, member, tail in (
            (["request", "a", "1"], 200, name, ["0"] * 4),
            (["request", "a", "1", "0"], 200, ["a", "0", "0"], ["0"] * 3),
            (["request", "a", "1", "0", "1", "a"], 200, name, ["0"] * 4),
            (["request", "a", "1", "0", "1", "a", "0"], 200, ["f", "cut"], ["0"] * 3),
            (["request", "a", "1", "0", "1", "a", "0", "1", "f", "put"], 40, line, ["0"] * 3),
            (["request", "a", "1", "0", "0"], 8, name, ["0"] * 2),
            (["request", "a", "1", "0", "0", "0"], 8, ["m", "a"], ["0"]),
            (["request", "a", "1", "0", "0", "0", "0"], 8, name, []),
            (["answer", "a", "1"], 200, ["a", "0"], ["0"] * 4),
            (["answer", "a", "1", "1", "a"], 200, name, ["0"] * 4),
            (["answer", "a", "1", "0"], 200, ["a", "-", "0", "0"], ["0"] * 3),
            (["answer", "a", "1", "0", "1", "a", "-"], 200, ["f", "cut"], ["0"] * 4),
            (["answer", "a", "1", "0", "1", "a", "-", "1", "f", "put"], 40, line, ["0"] * 4),
            (["answer", "a", "1", "0", "1", "a", "-", "0"], 200, ["f", "0"], ["0"] * 3),
            (["answer", "a", "1", "0", "1", "a", "-", "0", "1", "f"], 200, name, ["0"] * 3),
            (["answer", "a", "1", "0", "0"], 200, ["0", "1"], ["0"] * 2),
            (["answer", "a", "1", "0", "0", "1"], 200, name, ["1", "0", "0"]),
            (["answer", "a", "1", "0", "0", "0"], 8, ["m", "a"], ["0"]),
            (["answer", "a", "1", "0", "0", "0", "0"], 8, name, []),
        ):
            for count in (0, 1, most):
                strings = [*head, str(count), *member * count, *tail]
                self.assertEqual(letter_strings(read_letter(strings)), strings)
            self.assertEqual(self.fault([*head, str(most + 1), *member * (most + 1), *tail]), len(head))
            self.assertEqual(self.fault([*head, "01", *member, *tail]), len(head))

    def test_numbers_of_letters_and_kinds(self):
        for number, fine in ((0, 0), (1, 1), (2, 1), (10**9 - 1, 1), (10**9, 1), (10**9 + 1, 0), (10**4400, 0)):
            strings = ["answer", "a", "1" + "0" * 4400 if number > 10**99 else str(number), *["0"] * 5]
            if fine:
                self.assertEqual(read_letter(strings)[2], number)
            else:
                self.assertEqual(self.fault(strings), 2)
        for number, fine in ((0, 0), (1, 1), (9, 1), (10, 1), (60, 1), (61, 0), (100, 0)):
            strings = ["answer", "a", "1", "0", "0", "1", "1", "a", str(number), "0", "0"]
            if fine:
                self.assertEqual(read_letter(strings)[5], ((("a",), number),))
            else:
                self.assertEqual(self.fault(strings), 8)

    def test_orders_repetitions_and_meanings_are_not_checked(self):
        for letter in (
            ("request", "a", 1, ("b", "a", "b"), (("z1", ("z1", "z1"), (("g", None), ("f", ()), ("g", ("x",)))),),
             ("m", "m"), (("m", "a"), ("m", "b")), ("c", "c")),
            ("answer", "a", 1, (("b", ("b", "a")), ("a", ()), ("b", ())), (("a", "a", (), (("f", ("q",)),)),) * 2,
             ((("b", "a"), 1), (("b", "a"), 2)), (("m", "b"), ("m", "a")), ("z", "a", "z")),
        ):
            self.assertEqual(read_letter(letter_strings(letter)), letter)

    def test_the_first_fault_counts(self):
        self.assertEqual(self.fault([]), 0)
        self.assertEqual(self.fault(["letter", "z", "0"]), 0)
        self.assertEqual(self.fault(["request", "z", "0"]), 1)
        self.assertEqual(self.fault(["request", "a", "0", "x"]), 2)
        self.assertEqual(self.fault(["request", "a", "1", "2", "b", "NO", "NO"]), 5)

    def test_drawn_letters(self):
        chooser = Chooser(7)
        for _ in range(300):
            letter = drawn_letter(chooser)
            strings = letter_strings(letter)
            self.assertEqual(strings, [string for string, _ in parts(letter)])
            self.assertEqual(read_letter(strings), letter)


def drawn_letter(chooser):
    def drawn_names(most):
        return tuple(chooser.one_of(["a", "b1", "c22", "put", "cut"]) for _ in range(chooser.below(most + 1)))

    def drawn_pairs():
        return tuple(zip(drawn_names(4), drawn_names(4)))

    def drawn_puts():
        texts = [None, (), ("",), ("x", " "), ("put", "0", "-", "")]
        return tuple((path, chooser.one_of(texts)) for path in chooser.some_of(["f", "0/1", "cut"], 3))

    def drawn_sent():
        base = chooser.one_of([None, "a", "cut"])
        return "b1", base, drawn_puts(), tuple((path, drawn_names(3)) for path in chooser.some_of(["f", "0/1"], 2))

    head = chooser.one_of("abcdefgh"), chooser.below(10**9) + 1
    if chooser.below(2):
        made = tuple((name, drawn_names(2), drawn_puts()) for name in drawn_names(3))
        return ("request", *head, drawn_names(3), made, drawn_names(8), drawn_pairs(), drawn_names(8))
    rows = tuple((name, drawn_names(3)) for name in drawn_names(4))
    sent = tuple(drawn_sent() for _ in range(chooser.below(3)))
    tally = tuple((drawn_names(3), 1 + chooser.below(60)) for _ in range(chooser.below(3)))
    return ("answer", *head, rows, sent, tally, drawn_pairs(), drawn_names(8))


if __name__ == "__main__":
    unittest.main()
