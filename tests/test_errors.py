"""Refusals: points [5] and the interface's first row."""

import unittest

from pressnotes import errors
from tests.support import FORTY_FIGURES, JUNK

FIELDS = {
    "NoNumber": ("number",),
    "NoStars": ("many",),
    "NoRow": ("place",),
    "NoPage": ("word", "name"),
    "NoPaper": ("word", "place"),
    "NoWorld": ("word",),
    "NoBack": (),
    "NoText": ("row", "word"),
    "NoLine": ("line",),
}


class ErrorsTest(unittest.TestCase):
    def made(self, name):
        things = [["thing", at] for at in range(len(FIELDS[name]))]
        return getattr(errors, name)(*things), things

    def test_note_error_is_a_value_error(self):
        self.assertEqual((ValueError,), errors.NoteError.__bases__)
        with self.assertRaises(ValueError):
            raise errors.NoteError()

    def test_each_is_straight_under_note_error(self):
        for name in FIELDS:
            self.assertEqual((errors.NoteError,), getattr(errors, name).__bases__, name)

    def test_each_is_taken_as_its_own_and_as_those_above(self):
        for name in FIELDS:
            for above in (getattr(errors, name), errors.NoteError, ValueError):
                error, things = self.made(name)
                try:
                    raise error
                except above as caught:
                    self.assertIs(error, caught)

    def test_none_is_taken_as_another(self):
        for name in FIELDS:
            for other in FIELDS:
                if other != name:
                    error, things = self.made(name)
                    self.assertNotIsInstance(error, getattr(errors, other))

    def test_each_keeps_the_very_things(self):
        for name, fields in FIELDS.items():
            error, things = self.made(name)
            for field, thing in zip(fields, things):
                self.assertIs(thing, getattr(error, field), name)

    def test_fields_are_any_things(self):
        for thing in JUNK + [FORTY_FIGURES]:
            for name, fields in FIELDS.items():
                error = getattr(errors, name)(*[thing for field in fields])
                for field in fields:
                    self.assertIs(thing, getattr(error, field), name)

    def test_each_is_made_of_just_its_fields(self):
        for name, fields in FIELDS.items():
            with self.assertRaises(TypeError, msg=name):
                getattr(errors, name)(*range(len(fields) + 1))
            if fields:
                with self.assertRaises(TypeError, msg=name):
                    getattr(errors, name)(*range(len(fields) - 1))


if __name__ == "__main__":
    unittest.main()
