"""The errors of the whole program."""

import unittest

from onetrace import errors
from things import THINGS

FIELDS = {
    "NoText": "row", "NoLetter": "at", "NoName": "name", "Round": "name", "Asked": "name", "Unlike": "letters",
    "Claimed": "number", "NoDeed": "at", "BadLog": "row",
}
PLAIN = ["NoFlow", "NoUnit", "TooLong", "TooMany", "NoPair", "NoRewrite", "NoStyle"]


class Errors(unittest.TestCase):
    def test_all_stand_right_under_trace_error(self):
        self.assertEqual(errors.TraceError.__bases__, (ValueError,))
        for word in [*FIELDS, *PLAIN]:
            self.assertEqual(getattr(errors, word).__bases__, (errors.TraceError,), word)

    def test_fields(self):
        for word, field in FIELDS.items():
            made = getattr(errors, word)
            for thing in (3, "lib", [("get", (1,)), "!"], None):
                self.assertEqual(getattr(made(thing), field), thing)
                self.assertEqual(getattr(made(**{field: thing}), field), thing)
            self.assertTrue(str(made("lib")))

    def test_no_name_takes_anything(self):
        for thing in THINGS + [10 ** 5000]:
            self.assertEqual(errors.NoName(thing).name, thing)

    def test_others_are_made_of_a_text(self):
        for word in PLAIN + ["TraceError"]:
            made = getattr(errors, word)
            with self.assertRaises(errors.TraceError) as caught:
                raise made("so it is")
            self.assertEqual(str(caught.exception), "so it is")
