"""[1.1], [1.2]: the errors."""
from helping import ODD, Case

from zeroorone import errors

BASES = {
    "PaperError": ValueError, "InvalidGround": errors.PaperError, "InvalidPoly": errors.PaperError,
    "InvalidForm": errors.PaperError, "InvalidTable": errors.PaperError, "InvalidName": errors.PaperError,
    "InvalidClaim": errors.PaperError, "InvalidWish": errors.PaperError, "InvalidOperation": errors.PaperError,
    "ParseError": errors.PaperError, "InvalidNumber": IndexError, "UnknownName": KeyError,
    "NothingToUndo": RuntimeError, "TooMany": OverflowError, "Refused": ArithmeticError,
}
KEPT = {
    "InvalidGround": "value", "ParseError": "spot", "InvalidNumber": "given", "UnknownName": "name",
    "NothingToUndo": "wanted", "TooMany": "limit", "Refused": "reason",
}


class Errors(Case):
    def test_each_error_is_directly_derived_as_told(self):
        for name, base in BASES.items():
            self.assertEqual(getattr(errors, name).__bases__, (base,), name)

    def test_each_error_keeps_what_it_takes(self):
        for name, kept in KEPT.items():
            for value in ODD:
                self.assertIs(getattr(getattr(errors, name)(value), kept), value, name)

    def test_the_others_take_a_message(self):
        for name in BASES:
            if name not in KEPT:
                with self.assertRaises(getattr(errors, name)):
                    raise getattr(errors, name)("message")

    def test_errors_are_caught_by_their_bases(self):
        for name, base in BASES.items():
            with self.assertRaises(base):
                raise getattr(errors, name)("message")
