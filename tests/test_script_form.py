"""Point 45: writing and reading scripts."""

import re
import unittest

from partclones.errors import BadScript
from partclones.scripts.reading import read_script
from partclones.scripts.writing import script_lines
from support import Chooser

PAIRS = [
    ([("commit", "a", (), ())], ["commit a"]),
    ([("commit", "a", ("b",), ())], ["commit a on b"]),
    ([("commit", "on", ("on", "on"), ())], ["commit on on on on"]),
    ([("commit", "a1", ("b", "c", "b"), (("f", None),))], ["commit a1 on b c b", "cut f"]),
    (
        [("commit", "a", (), (("z/1/x", ()), ("f", ("x", "", " y "))))],
        ["commit a", "put z/1/x", "put f", ": x", ": ", ":  y "],
    ),
    ([("commit", "a", (), (("f", ("",)), ("g", ())))], ["commit a", "put f", ": ", "put g"]),
    (
        [("commit", "put", (), (("put", ("put f", "cut g")), ("cut", None)))],
        ["commit put", "put put", ": put f", ": cut g", "cut cut"],
    ),
    ([("commit", "a", (), (("f", ("<=>|-", "09az")),))], ["commit a", "put f", ": <=>|-", ": 09az"]),
    ([("merge", "m", "x", "y")], ["merge m of x y"]),
    ([("merge", "of", "of", "of")], ["merge of of of of"]),
    ([("pick", "p", "x", "y", "z")], ["pick p from x to y on z"]),
    ([("pick", "from", "to", "on", "pick")], ["pick from from to to on on pick"]),
    ([("keep", ())], ["keep"]),
    ([("keep", ("a",))], ["keep a"]),
    ([("keep", ("b", "a", "b"))], ["keep b a b"]),
    ([("ask", ("show", "a"))], ["ask show a"]),
    ([("ask", ("lead", "a", "a"))], ["ask lead a a"]),
    ([], []),
    (
        [("keep", ()), ("commit", "a", (), (("f", ("x",)),)), ("commit", "a", (), (("f", ("x",)),)), ("keep", ())],
        ["keep", "commit a", "put f", ": x", "commit a", "put f", ": x", "keep"],
    ),
]

QUESTIONS = [
    *[("show", 1), ("origins", 1), ("reach", 1)],
    *[("under", 2), ("bases", 2), ("base", 2), ("changes", 2), ("lead", 2)],
]

NAME = "[a-z][a-z0-9]{0,5}"
COMMAND = re.compile(
    f"commit {NAME}( on( {NAME})+)?|merge {NAME} of {NAME} {NAME}|pick {NAME} from {NAME} to {NAME} on {NAME}"
    f"|keep( {NAME})*|ask (show|origins|reach) {NAME}|ask (under|bases|base|changes|lead) {NAME} {NAME}"
)
PUT = re.compile("(put|cut) ([a-z0-9]{1,6}(/[a-z0-9]{1,6}){0,2})")
TEXT = re.compile(": [a-z0-9 <=>|-]{0,20}")


def plain_fault(lines):
    """The place of the first line that does not continue a written form, or None."""
    paths, room = None, 0
    for place, line in enumerate(lines):
        put = PUT.fullmatch(line)
        if COMMAND.fullmatch(line):
            paths, room = ([] if line.startswith("commit") else None), 0
        elif put and paths is not None and put.group(2) not in paths:
            paths.append(put.group(2))
            room = 40 if put.group(1) == "put" else 0
        elif TEXT.fullmatch(line) and room > 0:
            room -= 1
        else:
            return place
    return None


class WritingTest(unittest.TestCase):
    def fault(self, *commands):
        with self.assertRaises(BadScript) as caught:
            script_lines(list(commands))
        return caught.exception.place

    def test_each_form(self):
        for commands, lines in PAIRS:
            self.assertEqual(script_lines(commands), lines)

    def test_questions(self):
        for word, count in QUESTIONS:
            names = ["a", "b2"][:count]
            self.assertEqual(script_lines([("ask", (word, *names))]), [" ".join(["ask", word, *names])])

    def test_bad_names(self):
        for bad in ("", "NO", "1a", "abcdefg", "a b", "a/b", ":", " a", "a "):
            for command in (
                ("commit", bad, (), ()),
                ("commit", "a", (bad,), ()),
                ("commit", "a", ("b", bad), ()),
                *[("merge", bad, "a", "b"), ("merge", "a", bad, "b"), ("merge", "a", "b", bad)],
                *[("pick", bad, "a", "b", "c"), ("pick", "a", bad, "b", "c")],
                *[("pick", "a", "b", bad, "c"), ("pick", "a", "b", "c", bad)],
                *[("keep", (bad,)), ("keep", ("a", bad))],
                *[("ask", ("show", bad)), ("ask", ("under", bad, "a")), ("ask", ("under", "a", bad))],
            ):
                self.assertEqual(self.fault(("keep", ()), command), 1)

    def test_bad_puts(self):
        for puts in (
            (("", ()),),
            (("NO", None),),
            (("a/b/c/d", ()),),
            (("f g", None),),
            (("f", ()), ("f", ())),
            (("f", None), ("g", None), ("f", ("a",))),
            (("f", ("A",)),),
            (("f", ("a", ":")),),
            (("f", ("a" * 21,)),),
            (("f", ("a",) * 41),),
        ):
            self.assertEqual(self.fault(("commit", "a", (), puts)), 0)
        lines = script_lines([("commit", "a", (), (("f", ("a" * 20,) * 40),))])
        self.assertEqual(lines, ["commit a", "put f", *[": " + "a" * 20] * 40])

    def test_bad_questions(self):
        for question in (
            *[(), ("show",), ("show", "a", "b"), ("under", "a")],
            *[("shown", "a"), ("", "a"), ("lead", "a", "b", "c")],
        ):
            self.assertEqual(self.fault(("ask", question)), 0)

    def test_the_first_command_at_fault(self):
        good, bad = ("commit", "a", (), (("f", ("a", "b")),)), ("keep", ("NO",))
        self.assertEqual(self.fault(bad, good, bad), 0)
        self.assertEqual(self.fault(good, good, bad, bad), 2)
        self.assertEqual(self.fault(good, ("ask", ("show",)), bad), 1)

    def test_the_commands_are_not_changed(self):
        commands = [("keep", ("a",)), ("ask", ("show", "a"))]
        passed = list(commands)
        script_lines(passed).clear()
        self.assertEqual(passed, commands)


class ReadingTest(unittest.TestCase):
    def fault(self, *lines):
        with self.assertRaises(BadScript) as caught:
            read_script(list(lines))
        return caught.exception.place

    def test_each_form(self):
        for commands, lines in PAIRS:
            self.assertEqual(read_script(lines), commands)
            self.assertIsNone(plain_fault(lines))

    def test_questions(self):
        for word, count in QUESTIONS:
            names = ("a", "b2", "c")
            for many in range(4):
                line = " ".join(["ask", word, *names[:many]])
                if many == count:
                    self.assertEqual(read_script([line]), [("ask", (word, *names[:many]))])
                else:
                    self.assertEqual(self.fault(line), 0)

    def test_lines_that_are_no_commands(self):
        for line in (
            *["", " ", "a", "Commit a", "commits a", ":", ": ", ": a", ":a", "put", "put f", "cut", "cut f"],
            *["commit", "commit ", "commit NO", "commit a b", "commit a on", "commit a on ", "commit a in b"],
            *["commit a on NO", "commit a on b NO", "commit on on", "commit a on b,c"],
            *["merge", "merge m", "merge m of", "merge m of x", "merge m of x y z", "merge m on x y", "merge m x y"],
            *["merge NO of x y", "merge m of NO y", "merge m of x NO"],
            *["pick p from x to y", "pick p from x to y on", "pick p from x to y on z a", "pick p to x from y on z"],
            *["pick p from x to y at z", "pick NO from x to y on z", "pick p from NO to y on z"],
            *["pick p from x to NO on z", "pick p from x to y on NO"],
            *["keep NO", "keep a NO", "keep a,b", "ask", "ask ", "ask a", "ask show NO", "ask under a NO", "step"],
        ):
            self.assertEqual(self.fault(line), 0)
            self.assertEqual(self.fault("keep", line, line), 1)

    def test_spaces(self):
        for line in ("commit a on b", "merge m of x y", "pick p from x to y on z", "keep a b", "ask under a b"):
            self.assertEqual(len(read_script([line])), 1)
            for at in [at for at, sign in enumerate(line) if sign == " "]:
                self.assertEqual(self.fault(line[:at] + " " + line[at:]), 0)
            self.assertEqual(self.fault(line + " "), 0)
            self.assertEqual(self.fault(" " + line), 0)
            self.assertEqual(self.fault("keep", line, line + " "), 2)
        for line in ("keep ", "commit a ", "keep  a"):
            self.assertEqual(self.fault(line), 0)
        for line in ("put  f", "put f ", "cut f ", "cut  f", " put f", "put f g", "put ", "cut "):
            self.assertEqual(self.fault("commit a", line), 1)

    def test_lines_of_texts(self):
        lines = ["commit a", "put f", ": ", ":  ", ":  a ", ": put g", ": commit b"]
        self.assertEqual(read_script(lines), [("commit", "a", (), (("f", ("", " ", " a ", "put g", "commit b")),))])
        for line in (":", "::", ": :", ": ::", ":a", ": A", ": " + "a" * 21, ": a:", "a", " : a", ""):
            self.assertEqual(self.fault("commit a", "put f", ": x", line, ": y"), 3)
        self.assertEqual(read_script(["commit a", "put f", ": " + "a" * 20])[0][3], (("f", ("a" * 20,)),))

    def test_a_line_that_belongs_to_no_put(self):
        self.assertEqual(self.fault(": a"), 0)
        self.assertEqual(self.fault("commit a", ": a"), 1)
        self.assertEqual(self.fault("commit a", "cut f", ": a"), 2)
        self.assertEqual(self.fault("commit a", "put f", "cut g", ": a"), 3)
        self.assertEqual(self.fault("commit a", "put f", ": a", "keep", ": a"), 4)
        self.assertEqual(self.fault("commit a", "put f", "commit b", ": a"), 3)

    def test_a_put_that_belongs_to_no_commit(self):
        for line in ("put f", "cut f"):
            self.assertEqual(self.fault(line), 0)
            for command in ("keep", "keep a", "merge m of x y", "pick p from x to y on z", "ask show a"):
                self.assertEqual(self.fault("commit a", command, line), 2)

    def test_paths(self):
        for path in ("", "NO", "a/b/c/d", "abcdefg", "/a", "a/", "a//b", ":", "f."):
            self.assertEqual(self.fault("commit a", "put " + path), 1)
            self.assertEqual(self.fault("commit a", "put f", "cut " + path), 2)

    def test_a_repeated_path(self):
        self.assertEqual(self.fault("commit a", "put f", "put f"), 2)
        self.assertEqual(self.fault("commit a", "put f", ": a", "cut g", "cut f"), 4)
        self.assertEqual(self.fault("commit a", "cut f", "put g", ": a", "put f", ": a"), 4)
        self.assertEqual(len(read_script(["commit a", "put f", "commit b", "put f"])), 2)

    def test_the_forty_first_line(self):
        lines = ["commit a", "put f", *[": a"] * 40]
        self.assertEqual(read_script(lines), [("commit", "a", (), (("f", ("a",) * 40),))])
        self.assertEqual(self.fault(*lines, ": a"), 42)
        self.assertEqual(self.fault(*lines, "put g", *[": a"] * 40, ": "), 83)

    def test_many_puts(self):
        puts = tuple((f"p{number}", ("a", "b") * 20) for number in range(200))
        commands = [("commit", "a", (), puts)]
        self.assertEqual(read_script(script_lines(commands)), commands)

    def test_the_first_line_at_fault(self):
        self.assertEqual(self.fault("keep", "ask show a", "commit a", "put NO", "put NO", ""), 3)
        self.assertEqual(self.fault("bad", "worse"), 0)

    def test_the_lines_are_not_changed(self):
        lines = ["commit a", "put f", ": x", "keep a"]
        passed = list(lines)
        read_script(passed).clear()
        self.assertEqual(passed, lines)


class BothTest(unittest.TestCase):
    def test_reading_undoes_writing(self):
        chooser = Chooser(4)
        names = ["a", "b2", "on", "of", "put", "cut", "commit", "from", "to", "z9z9z9"]
        texts = ["", " ", "a", " a", "a ", "put f", "-", "<<<<<<<", "x" * 20]
        for _ in range(300):
            commands = []
            for _ in range(chooser.below(5)):
                one, two, three, four = [chooser.one_of(names) for _ in range(4)]
                puts = []
                for path in chooser.some_of(["f", "g/a", "put", "0/1/2"], 3):
                    lines = tuple(chooser.one_of(texts) for _ in range(chooser.below(4)))
                    puts.append((path, lines if chooser.below(3) else None))
                parents = tuple(chooser.one_of(names) for _ in range(chooser.below(4)))
                word, count = chooser.one_of(QUESTIONS)
                commands.append(chooser.one_of([
                    *[("commit", one, parents, tuple(puts))] * 3,
                    *[("merge", one, two, three), ("pick", one, two, three, four), ("keep", parents)],
                    ("ask", (word, *[two, three][:count])),
                ]))
            lines = script_lines(commands)
            self.assertIsNone(plain_fault(lines))
            self.assertEqual(read_script(lines), commands)

    def test_writing_undoes_reading_and_faults_are_found(self):
        chooser = Chooser(9)
        pool = [
            *["commit a", "commit b on a", "commit a on", "put f", "put g", "cut f", "cut g/h", "put f "],
            *[": ", ": a", ": b ", ":", ": A", "merge m of a b", "merge m of a", "keep", "keep a a", "keep "],
            *["pick p from a to b on c", "ask show a", "ask under a", "ask", ""],
        ]
        good = [line for line in pool if plain_fault(["commit z", "put z", line]) is None]
        faults = []
        for number in range(3000):
            lines = ["commit z", "put z", *[chooser.one_of(good if number % 2 else pool) for _ in range(7)]]
            fault = plain_fault(lines)
            faults.append(fault)
            if fault is None:
                self.assertEqual(script_lines(read_script(lines)), lines)
                continue
            with self.assertRaises(BadScript) as caught:
                read_script(lines)
            self.assertEqual(caught.exception.place, fault)
            self.assertEqual(script_lines(read_script(lines[:fault])), lines[:fault])
        self.assertEqual({*faults}, {None, *range(2, 9)})


if __name__ == "__main__":
    unittest.main()
