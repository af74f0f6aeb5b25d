"""The errors: classes, fields, bases."""

import unittest

from partclones import errors

FIELDS = {
    "BadText": ("place",),
    "BadEdit": ("place",),
    "BadTree": ("path", "place"),
    "Misfit": ("place",),
    "BadPut": ("place",),
    "TooLarge": ("path",),
    "BadName": ("name",),
    "Taken": ("name",),
    "Unknown": ("name",),
    "Repeated": ("name",),
    "NotClosed": ("first", "second", "missing"),
    "Needed": ("name",),
    "BadRanking": (),
    "TooMany": (),
    "BadQuestion": (),
    "BadScript": ("place",),
    "NothingToUndo": (),
    "NothingToRedo": (),
    "UnlikeNames": (),
    "BadSize": ("value",),
    "BadCell": ("at",),
    "BadItems": (),
    "BadFuse": ("value",),
    "BadMask": ("value",),
    "PowerCut": (),
    "Broken": (),
    "Missing": ("key",),
    "BadRecord": ("key",),
    "NoRoom": ("needed",),
    "BadLetter": ("place",),
    "BadMark": ("name",),
    "BadParty": ("name",),
    "NoLetter": ("serial",),
}

ARGUMENTS = {
    "place": 3,
    "path": "a/b",
    "name": "x1",
    "first": "a",
    "second": "b",
    "missing": "c",
    "value": -7,
    "at": 12,
    "key": "v.a",
    "needed": 5,
    "serial": 9,
}


def made(word):
    return getattr(errors, word)(*[ARGUMENTS[field] for field in FIELDS[word]])


class ErrorsTest(unittest.TestCase):
    def test_base_class(self):
        self.assertEqual(errors.PartError.__bases__, (ValueError,))
        self.assertEqual(errors.PartError.__module__, "partclones.errors")

    def test_every_class_derives_from_part_error_directly(self):
        for word in FIELDS:
            with self.subTest(word):
                self.assertEqual(getattr(errors, word).__bases__, (errors.PartError,))
                self.assertEqual(getattr(errors, word).__module__, "partclones.errors")

    def test_there_are_no_other_errors(self):
        words = [word for word in vars(errors) if isinstance(vars(errors)[word], type)]
        self.assertEqual(sorted(words), sorted([*FIELDS, "PartError"]))

    def test_fields_keep_the_arguments(self):
        for word, fields in FIELDS.items():
            with self.subTest(word):
                error = made(word)
                for field in fields:
                    self.assertEqual(getattr(error, field), ARGUMENTS[field])

    def test_place_of_a_tree_may_be_none(self):
        error = errors.BadTree("a/b", None)
        self.assertEqual((error.path, error.place), ("a/b", None))

    def test_each_error_is_none_of_the_others(self):
        for word in FIELDS:
            for other in FIELDS:
                with self.subTest(f"{word} {other}"):
                    self.assertEqual(isinstance(made(word), getattr(errors, other)), word == other)

    def test_each_error_can_be_caught_as_the_base_and_as_value_error(self):
        for word in FIELDS:
            for kind in (errors.PartError, ValueError):
                with self.subTest(word), self.assertRaises(kind):
                    raise made(word)

    def test_each_error_has_a_text(self):
        for word in FIELDS:
            self.assertIsInstance(str(made(word)), str)


if __name__ == "__main__":
    unittest.main()
