"""Points 51, 57 and 62: power cuts of parties."""

import unittest

from partclones.errors import NoRoom, PartError, PowerCut
from partclones.parties.clone import Clone
from partclones.parties.hub import Hub
from partclones.vault.disk import Disk
from plainfleet import picture
from support import Chooser

MASKS = (0, 1, 2, 3, 5, 6, 2**40 - 1, 2**40)


class Scene:
    """A clone a and a hub behind some exchanges, with letters that can be taken; made anew each time."""

    def __init__(self):
        self.disks = {"a": Disk(4000), "hub": Disk(4000)}
        self.clone, self.hub = Clone.fresh("a", self.disks["a"]), Hub.fresh(self.disks["hub"])
        other = Clone.fresh("b", Disk(4000))
        other.commit([], {"f": ["a", "b"], "g": [""]})
        other.commit(["b1"], {"f": ["a", "b", "c"]})
        other.commit(["b1"], {"f": ["b"]})
        other.take(self.hub.take(other.pull([], [("main", "b2"), ("old", "b1")])))
        self.clone.take(self.hub.take(self.clone.pull(["main", "old"], [], "b3")))
        self.clone.commit(["b2"], {"f": ["x", "a", "b", "c"]})
        self.clone.merge("a1", "b3")
        self.request = self.clone.pull(["main"], [("main", "a2"), ("new", "b3")], "b3")
        # The same request at another hub gives an answer that this clone can take.
        twin = Hub.opened(self.copy(self.disks["hub"]))
        self.answer = twin.take(self.request)
        other.keep([])
        self.old = other.pull([], [])
        self.disks["lone"] = self.lone()

    def lone(self):
        """The disk of a hub that keeps more than it needs."""
        disk = Disk(4000)
        hub, clone = Hub.fresh(disk), Clone.fresh("c", Disk(4000))
        for number in range(4):
            clone.commit(clone.kept()[-1:], {"f": [f"{number}"]})
        clone.take(hub.take(clone.pull([], [("main", "c2")])))
        clone.keep(["c4"])
        clone.take(hub.take(clone.pull([], [])))
        return disk

    def copy(self, disk):
        twin = Disk(4000)
        for at in range(4000):
            if disk.read(at) is not None:
                twin.write(at, disk.read(at))
        twin.flush()
        return twin


class Kept:
    """A scene that is made once, and copies of its disks to play on."""

    scene = Scene()

    @classmethod
    def party(cls, who):
        disk = cls.scene.copy(cls.scene.disks[who])
        return disk, (Clone if who == "a" else Hub).opened(disk)


CLONE_DEEDS = {
    "commit": lambda clone: clone.commit(["a2", "b1"], {"f": ["a"] * 30, "h": ["x" * 20] * 10}),
    "merge": lambda clone: clone.merge("b2", "b3"),
    "pick": lambda clone: clone.pick("b1", "b2", "b3"),
    "keep": lambda clone: clone.keep(["b3"]),
    "keep of all": lambda clone: clone.keep(clone.kept()),
    "pull": lambda clone: clone.pull(["m"], [("m", "a2")], "b1"),
    "take": lambda clone: clone.take(Kept.scene.answer),
}
HUB_DEEDS = {
    "take": lambda hub: hub.take(Kept.scene.request),
    "take of another": lambda hub: hub.take(Kept.scene.old),
}


class PowerTest(unittest.TestCase):
    def total(self, who, deed):
        """The number of operations of a deed, with what it gives and what it leads to."""
        disk, party = Kept.party(who)
        disk.fuse = 1000
        told = deed(party)
        return 1000 - disk.fuse, told, picture(party)

    def check(self, who, deed):
        total, told, after = self.total(who, deed)
        self.assertGreater(total, 3)
        before = picture(Kept.party(who)[1])
        self.assertNotEqual(after, before)
        found = []
        for fuse in range(total + 2):
            for mask in MASKS:
                disk, party = Kept.party(who)
                disk.fuse = fuse
                if fuse < total:
                    self.assertRaises(PowerCut, deed, party)
                    self.assertEqual(disk.fuse, 0)
                else:
                    self.assertEqual(deed(party), told)
                    self.assertEqual(picture(party), after)
                disk.fall(mask)
                again = type(party).opened(disk)
                now = picture(again)
                self.assertIn(now, (before, after))
                found.append(now == after)
                if fuse < total - 1:
                    self.assertEqual(now, before)
                if fuse >= total:
                    self.assertEqual(now, after)
                if now == before:
                    # Cut and undone, it takes the same number of operations and gives the same.
                    disk.fuse = 1000
                    self.assertEqual(deed(again), told)
                    self.assertEqual((1000 - disk.fuse, picture(again)), (total, after))
                    disk.fuse = None
                self.assertEqual(picture(type(party).opened(disk)), after)
        # The fall may carry out the last write of a cut deed.
        self.assertEqual({*found[MASKS.index(0) + len(MASKS) * (total - 1):][:len(MASKS)]}, {True, False})

    def test_deeds_of_a_clone(self):
        for name, deed in CLONE_DEEDS.items():
            with self.subTest(name):
                self.check("a", deed)

    def test_deeds_of_the_hub(self):
        for name, deed in HUB_DEEDS.items():
            with self.subTest(name):
                self.check("hub", deed)

    def test_forget(self):
        self.assertEqual(Kept.party("lone")[1].forget(), ["c2", "c4"])
        self.check("lone", lambda hub: hub.forget())

    def test_one_commit_of_the_vault(self):
        # A deed writes one root, which is one number ahead.
        for who, deeds in (("a", CLONE_DEEDS), ("hub", HUB_DEEDS)):
            for name, deed in deeds.items():
                disk, party = Kept.party(who)
                counts = sorted(int(disk.read(at)[1]) for at in (0, 1))
                deed(party)
                self.assertEqual(max(int(disk.read(at)[1]) for at in (0, 1)), counts[1] + 1, name)

    def test_names_behind_a_cut_deed(self):
        for fuse in range(40):
            disk, clone = Kept.party("a")
            disk.fuse = fuse
            try:
                self.assertEqual(clone.commit([], {"f": ["x"]}), "a3")
                break
            except PowerCut:
                disk.fall(0)
            clone = Clone.opened(disk)
            self.assertEqual(clone.kept(), ["a1", "a2", "b1", "b2", "b3"])
            self.assertEqual(clone.commit([], {}), "a3")
        else:
            self.fail("no fuse is long enough")

    def test_what_changes_nothing_does_no_operation(self):
        disk, clone = Kept.party("a")
        disk.fuse = 0
        clone.ask(("show", "a1"))
        clone.again()
        self.assertIs(clone.take([*Kept.scene.answer[:2], "1", *Kept.scene.answer[3:]]), False)
        disk, hub = Kept.party("hub")
        hub.take(Kept.scene.request)
        disk.fuse = 0
        self.assertEqual(hub.take(Kept.scene.request), Kept.scene.answer)
        self.assertEqual(hub.forget(), hub.kept())

    def test_refused_deeds_change_nothing(self):
        for who, deeds in (
            ("a", [
                *[lambda one: one.commit(["q"], {}), lambda one: one.commit([], {"NO": []})],
                *[lambda one: one.merge("a1", "a1"), lambda one: one.pick("a1", "q", "a1")],
                *[lambda one: one.keep(["q"]), lambda one: one.pull(["NO"], []), lambda one: one.take(["x"])],
                *[lambda one: one.take(Kept.scene.request), lambda one: one.ask(("what",))],
            ]),
            ("hub", [
                *[lambda one: one.take(["x"]), lambda one: one.take(Kept.scene.answer)],
                *[lambda one: one.record("z"), lambda one: one.ask(("what",))],
            ]),
        ):
            disk, party = Kept.party(who)
            before = picture(party)
            disk.fuse = 0
            for deed in deeds:
                with self.assertRaises(PartError) as caught:
                    deed(party)
                self.assertNotIsInstance(caught.exception, PowerCut)
            self.assertEqual((picture(party), disk.queued), (before, 0))

    def test_no_room(self):
        disk = Disk(30)
        clone = Clone.fresh("a", disk)
        while True:
            before = picture(clone)
            disk.fuse = 0
            # All other checks come first, and the room comes ahead of the power.
            with self.assertRaises(PartError) as caught:
                clone.commit(["q"], {})
            self.assertEqual(caught.exception.name, "q")
            try:
                clone.commit([], {"f": ["x" * 20] * 30})
            except NoRoom as error:
                self.assertGreater(error.needed, 0)
                break
            except PowerCut:
                disk.fall(0)
                clone = Clone.opened(disk)
                clone.commit([], {"f": ["x" * 20] * 30})
        self.assertEqual(picture(clone), before)
        disk.fuse = None
        self.assertEqual(picture(Clone.opened(disk)), before)

    def test_fresh_parties(self):
        for make in (lambda disk: Clone.fresh("a", disk), Hub.fresh):
            disk = Disk(100)
            disk.fuse = 1000
            make(disk)
            for fuse in range(1000 - disk.fuse):
                disk = Disk(100)
                disk.fuse = fuse
                self.assertRaises(PowerCut, make, disk)

    def test_long_rows_of_cuts(self):
        chooser = Chooser(4)
        disk = Disk(4000)
        clone, hub = Clone.fresh("a", disk), Hub.fresh(Disk(4000))
        made = 0
        for _ in range(300):
            before = picture(clone)
            twin = Clone.opened(Kept.scene.copy(disk))
            kept = clone.kept()
            deed = chooser.below(5)
            if deed == 0 and made < 50:
                call, arguments = "commit", (kept[-2:], {"f": [f"{made}"]})
            elif deed == 1:
                call, arguments = "keep", (kept[::2],)
            elif deed == 2 or clone.again() is None:
                call, arguments = "pull", ([], [], "a1")
            else:
                call, arguments = "take", (hub.take(clone.again()),)
            told = getattr(twin, call)(*arguments)
            disk.fuse = chooser.below(12)
            try:
                self.assertEqual(getattr(clone, call)(*arguments), told)
                self.assertEqual(picture(clone), picture(twin))
            except PowerCut:
                disk.fall(chooser.below(256))
                clone = Clone.opened(disk)
                self.assertIn(picture(clone), (before, picture(twin)))
            disk.fuse = None
            made = int(clone.kept()[-1][1:]) if call == "commit" and clone.kept() else made


if __name__ == "__main__":
    unittest.main()
