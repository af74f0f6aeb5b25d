"""Point 46: desks, steps that are undone and redone, and trials."""

import unittest

from partclones.errors import NothingToRedo, NothingToUndo, TooMany
from partclones.histories.history import History
from partclones.scripts.desk import Desk, tried
from partclones.scripts.step import step
from support import Chooser, example, spoil

ROOT = ("commit", "r", (), (("f", ("a",)),))
SON = ("commit", "s", ("r",), (("f", ("a", "b")),))
OTHER = ("commit", "t", ("r",), (("g", ()),))
ASK = ("ask", ("show", "r"))
BAD = ("commit", "NO", (), ())


class PlainDesk:
    """A desk that keeps all that it did, and does it anew each time, to compare with."""

    def __init__(self):
        self.done = []
        self.undone = []

    def history(self):
        now = History()
        for command in self.done:
            now = step(now, command)[0]
        return now

    def __call__(self, command):
        told = step(self.history(), command)[1]
        if told[0] in ("done", "merged", "kept"):
            self.done.append(command)
            self.undone = []
        return told

    def undo(self):
        if not self.done:
            raise NothingToUndo()
        self.undone.append(self.done.pop())
        return self.undone[-1]

    def redo(self):
        if not self.undone:
            raise NothingToRedo()
        self.done.append(self.undone.pop())
        return self.done[-1]


class Case(unittest.TestCase):
    def setUp(self):
        self.desk = Desk()

    def picture(self, desk=None):
        """All that can be seen of a desk, with what can be undone and redone."""
        desk = desk or self.desk
        first = (desk.depth, desk.facts())
        undone = []
        while desk.depth:
            undone.append((desk.undo(), desk.facts()))
        redone = []
        while True:
            try:
                redone.append((desk.redo(), desk.facts()))
            except NothingToRedo:
                break
        while desk.depth > first[0]:
            desk.undo()
        self.assertEqual((desk.depth, desk.facts()), first)
        return first, undone, redone

    def stays(self, error, call, *arguments):
        before = self.picture()
        self.assertRaises(error, call, *arguments)
        self.assertEqual(self.picture(), before)


class DeskTest(Case):
    def test_a_new_desk(self):
        self.assertEqual((self.desk.depth, self.desk.facts()), (0, ((), ())))
        self.assertEqual(Desk(None).facts(), ((), ()))
        self.stays(NothingToUndo, self.desk.undo)
        self.stays(NothingToRedo, self.desk.redo)

    def test_a_desk_has_a_copy_of_the_history(self):
        history = example()
        desk = Desk(history)
        before = desk.facts()
        self.assertEqual(before, example().facts())
        history.commit("n", ["m"], {})
        self.assertEqual(desk.facts(), before)
        desk(("commit", "o", ("m",), ()))
        self.assertNotIn("o", history)
        self.assertEqual(Desk(history=history).facts(), history.facts())
        self.assertEqual(desk.depth, 1)

    def test_answers(self):
        desk = Desk(example())
        for command, told in (
            (("commit", "n", ("x",), (("f", None),)), ("done",)),
            (("merge", "o", "n", "y"), ("merged", (("f", 0),))),
            (("pick", "p", "r", "x", "y"), ("merged", ())),
            (("ask", ("lead", "o", "x")), ("answer", 3)),
            (("keep", ("o", "p")), ("kept", ("o", "p", "y"))),
            (("merge", "q", "o", "x"), ("refused", "unknown")),
            (("ask", ("what",)), ("refused", "question")),
        ):
            self.assertEqual(desk(command), told)
        self.assertEqual(desk.depth, 4)

    def test_undo_and_redo(self):
        pictures = [self.desk.facts()]
        for command in (ROOT, SON, OTHER):
            self.desk(command)
            pictures.append(self.desk.facts())
        for at, command in ((2, OTHER), (1, SON), (0, ROOT)):
            self.assertEqual(self.desk.undo(), command)
            self.assertEqual((self.desk.depth, self.desk.facts()), (at, pictures[at]))
        self.stays(NothingToUndo, self.desk.undo)
        for at, command in ((1, ROOT), (2, SON)):
            self.assertEqual(self.desk.redo(), command)
            self.assertEqual((self.desk.depth, self.desk.facts()), (at, pictures[at]))
        self.assertEqual(self.desk.undo(), SON)
        self.assertEqual([self.desk.redo(), self.desk.redo()], [SON, OTHER])
        self.assertEqual((self.desk.depth, self.desk.facts()), (3, pictures[3]))
        self.stays(NothingToRedo, self.desk.redo)

    def test_a_new_step_drops_what_was_undone(self):
        for command in (ROOT, SON):
            self.desk(command)
        self.desk.undo()
        self.assertEqual(self.desk(OTHER), ("done",))
        self.stays(NothingToRedo, self.desk.redo)
        self.assertEqual([self.desk.undo(), self.desk.undo()], [OTHER, ROOT])

    def test_questions_and_refused_commands_have_no_effect(self):
        for command in (ROOT, SON, OTHER):
            self.desk(command)
        self.desk.undo()
        before = self.picture()
        for command in (ASK, BAD, ("ask", ("show", "q")), ("commit", "r", (), ()), ("keep", ("q",)), ("ask", ())):
            self.desk(command)
            self.assertEqual(self.picture(), before)
        self.assertEqual(self.desk.redo(), OTHER)

    def test_a_keep_that_forgets_nothing_is_a_step(self):
        self.desk(ROOT)
        self.desk(SON)
        self.desk.undo()
        before = self.desk.facts()
        self.assertEqual(self.desk(("keep", ("r",))), ("kept", ("r",)))
        self.assertEqual((self.desk.depth, self.desk.facts()), (2, before))
        self.stays(NothingToRedo, self.desk.redo)
        self.assertEqual(self.desk.undo(), ("keep", ("r",)))

    def test_a_keep_is_undone(self):
        desk = Desk(example())
        before = desk.facts()
        desk(("keep", ("m",)))
        self.assertNotEqual(desk.facts(), before)
        self.assertEqual(desk.undo(), ("keep", ("m",)))
        self.assertEqual(desk.facts(), before)

    def test_two_desks_stay_apart(self):
        other = Desk()
        self.desk(ROOT)
        self.assertEqual((other.depth, other.facts()), (0, ((), ())))

    def test_against_doing_all_anew(self):
        for seed in range(4):
            chooser, desk, plain = Chooser(seed), Desk(), PlainDesk()
            for number in range(120):
                names = plain.history().names() or ["q"]
                kind = chooser.below(10)
                if kind < 3:
                    both = [self.tried(one, "undo") for one in (desk, plain)]
                elif kind < 5:
                    both = [self.tried(one, "redo") for one in (desk, plain)]
                else:
                    one, other = chooser.one_of(names), chooser.one_of(names)
                    command = chooser.one_of([
                        *[("commit", f"n{number}", (one, "n7"), ()), ("commit", f"n{number}", (), ())] * 2,
                        *[("merge", f"n{number}", one, other), ("ask", ("reach", one)), ("keep", (one, other))],
                        *[("commit", f"n{number}", (one,), (("f", (f"{number}",)),))] * 3,
                    ])
                    both = [desk(command), plain(command)]
                self.assertEqual(both[0], both[1])
                self.assertEqual((desk.depth, desk.facts()), (len(plain.done), plain.history().facts()))

    def tried(self, desk, call):
        try:
            return getattr(desk, call)()
        except (NothingToUndo, NothingToRedo) as error:
            return type(error)


class TrialTest(Case):
    def setUp(self):
        self.desk = Desk()
        for command in (ROOT, SON, OTHER):
            self.desk(command)
        self.desk.undo()

    def test_the_desk_is_as_before(self):
        before = self.picture()
        with self.desk.trial() as inside:
            self.assertIs(inside, self.desk)
            self.assertEqual(self.picture(), before)
            self.assertEqual(inside(("commit", "u", ("s",), ())), ("done",))
            self.assertEqual(inside.depth, 3)
        self.assertEqual(self.picture(), before)

    def test_steps_from_before_are_undone_and_redone_in_it(self):
        before = self.picture()
        with self.desk.trial() as inside:
            self.assertEqual([inside.undo(), inside.undo()], [SON, ROOT])
            self.stays(NothingToUndo, inside.undo)
        self.assertEqual(self.picture(), before)
        with self.desk.trial() as inside:
            self.assertEqual(inside.redo(), OTHER)
        self.assertEqual(self.picture(), before)
        with self.desk.trial() as inside:
            inside.undo()
            inside(("keep", ()))
        self.assertEqual(self.picture(), before)

    def test_exceptions_are_passed_on(self):
        before = self.picture()
        for error in (KeyError("k"), NothingToRedo(), KeyboardInterrupt()):
            with self.assertRaises(type(error)) as caught:
                with self.desk.trial() as inside:
                    inside.undo()
                    raise error
            self.assertIs(caught.exception, error)
            self.assertEqual(self.picture(), before)

    def test_trials_within_trials(self):
        before = self.picture()
        with self.desk.trial() as outer:
            outer(("commit", "u", ("s",), ()))
            between = self.picture()
            with outer.trial() as inner:
                self.assertIs(inner, self.desk)
                inner.undo()
                inner.undo()
                with self.assertRaises(ZeroDivisionError):
                    with inner.trial():
                        inner(("keep", ()))
                        raise ZeroDivisionError()
                self.assertEqual(inner.depth, 1)
            self.assertEqual(self.picture(), between)
        self.assertEqual(self.picture(), before)

    def test_a_trial_begins_with_its_block(self):
        trial = self.desk.trial()
        self.desk(("commit", "u", ("s",), ()))
        before = self.picture()
        with trial:
            self.desk.undo()
        self.assertEqual(self.picture(), before)

    def test_steps_behind_a_trial(self):
        with self.desk.trial() as inside:
            inside(("keep", ()))
        self.assertEqual(self.desk(("commit", "u", ("s",), ())), ("done",))
        self.assertEqual([self.desk.undo(), self.desk.undo()], [("commit", "u", ("s",), ()), SON])


class TriedTest(Case):
    def setUp(self):
        TrialTest.setUp(self)

    def gives(self, moves, told):
        before = self.picture()
        self.assertEqual(tried(self.desk, moves), told)
        self.assertEqual(self.picture(), before)

    def test_moves(self):
        self.gives([], [])
        self.gives([ASK, BAD], [("answer", (("f", ("a",)),)), ("refused", "name")])
        self.gives([("undo",), ("undo",), ("redo",)], [SON, ROOT, ROOT])
        self.gives([("redo",)], [OTHER])
        self.gives([("undo",), ("keep", ("r",)), ("undo",)], [SON, ("kept", ("r",)), ("keep", ("r",))])

    def test_lists_are_trials_of_their_own(self):
        ask = ("ask", ("reach", "s"))
        self.gives(
            [[("undo",), ask], ask, [], [[[ask]]], [("redo",), ("undo",), ("undo",)]],
            [[SON, ("refused", "unknown")], ("answer", 2), [], [[[("answer", 2)]]], [OTHER, OTHER, SON]],
        )
        make = ("commit", "u", ("s",), ())
        self.gives([[make, [make, ("undo",)]], make], [[("done",), [("refused", "taken"), make]], ("done",)])

    def test_exceptions_are_passed_on(self):
        before = self.picture()
        for error, moves in (
            (NothingToUndo, [("undo",), ("undo",), ("undo",), ("redo",)]),
            (NothingToRedo, [("redo",), ("redo",)]),
            (NothingToRedo, [("undo",), [("commit", "u", ("r",), ()), [("redo",)]], ASK]),
        ):
            self.assertRaises(error, tried, self.desk, moves)
            self.assertEqual(self.picture(), before)

    def test_two_hundred_moves(self):
        self.gives([BAD] * 200, [("refused", "name")] * 200)
        self.gives([[BAD] * 99] * 2, [[("refused", "name")] * 99] * 2)
        self.gives([[]] * 200, [[]] * 200)
        shared = [BAD] * 9
        self.gives([shared] * 20, [[("refused", "name")] * 9] * 20)
        for moves in ([BAD] * 201, [[BAD] * 99, [BAD] * 100], [[]] * 201, [shared] * 20 + [BAD], [[[BAD] * 199]]):
            self.stays(TooMany, tried, self.desk, moves)

    def test_four_deep(self):
        self.gives([[[[]]]], [[[[]]]])
        self.gives([[[[BAD]]]], [[[[("refused", "name")]]]])
        for moves in ([[[[[]]]]], [BAD, [[[BAD, [BAD]]]]], [[], [[], [[], [[]], [[[]]]]]]):
            self.stays(TooMany, tried, self.desk, moves)

    def test_a_list_that_contains_itself(self):
        moves = [BAD]
        moves.append(moves)
        self.stays(TooMany, tried, self.desk, moves)

    def test_too_many_comes_ahead_of_everything(self):
        desk = Desk()
        for moves in ([("undo",), *[BAD] * 200], [("redo",), [[[[]]]]]):
            self.assertRaises(TooMany, tried, desk, moves)

    def test_nothing_is_shared(self):
        inner = [ASK]
        moves = [inner, ASK]
        told = tried(self.desk, moves)
        self.assertEqual((moves, inner), ([[ASK], ASK], [ASK]))
        spoil(told)
        self.assertEqual((moves, inner), ([[ASK], ASK], [ASK]))
        self.assertEqual(len(tried(self.desk, moves)), 2)


if __name__ == "__main__":
    unittest.main()
