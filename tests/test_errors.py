"""The errors: what each derives from, and what it keeps."""

import unittest

from teamtells import errors
from tests.cases import KEPT, Case, values

WITH_MESSAGE = (
    "InvalidKind", "InvalidPlan", "InvalidProgram", "InvalidSystem", "InvalidInputs", "InvalidWord", "InvalidOperation",
)
BASES = {
    "InvalidNumber": IndexError,
    "UnknownName": KeyError,
    "NothingToUndo": LookupError,
    "TooMany": OverflowError,
    "Refused": ArithmeticError,
}


class ErrorsTest(Case):
    def test_team_error_is_a_value_error(self):
        self.assertEqual(errors.TeamError.__bases__, (ValueError,))

    def test_errors_of_form_derive_directly_from_team_error(self):
        for name in WITH_MESSAGE + ("ParseError",):
            self.assertEqual(getattr(errors, name).__bases__, (errors.TeamError,), name)

    def test_other_errors_derive_directly_from_built_in_ones(self):
        for name, base in BASES.items():
            self.assertEqual(getattr(errors, name).__bases__, (base,), name)
            self.assertFalse(issubclass(getattr(errors, name), errors.TeamError), name)

    def test_errors_are_made_with_a_message(self):
        for name in WITH_MESSAGE + ("TeamError",):
            self.assertEqual(str(getattr(errors, name)("no such thing")), "no such thing")

    def test_errors_keep_their_argument_whatever_it_is(self):
        for error, attribute in KEPT.items():
            for value in values():
                self.assertIs(getattr(error(value), attribute), value)

    def test_errors_that_keep_are_the_ones_of_the_document(self):
        kept = {error.__name__: attribute for error, attribute in KEPT.items()}
        self.assertEqual(kept, {
            "ParseError": "at", "InvalidNumber": "given", "UnknownName": "wanted", "NothingToUndo": "many",
            "TooMany": "limit", "Refused": "claim",
        })

    def test_errors_can_be_raised_and_caught_by_their_bases(self):
        for error in KEPT:
            with self.assertRaises(error.__bases__[0]):
                raise error(7)

    def test_each_error_is_defined_in_its_file(self):
        for name in WITH_MESSAGE + ("TeamError", "ParseError") + tuple(BASES):
            self.assertEqual(getattr(errors, name).__module__, "teamtells.errors")


if __name__ == "__main__":
    unittest.main()
