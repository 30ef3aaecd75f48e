"""The interface: names, arguments, and the file in which each function and class is defined."""
import ast
import importlib
import inspect
import unittest
from pathlib import Path

ROOT = Path(__file__).resolve().parent.parent

FUNCTIONS = {
    "zeroorone.base.numbers": """is_ground(value) is_number(ground,value) whole(ground,number) fraction(top,bottom)
        added(ground,one,other) subtracted(ground,one,other) multiplied(ground,one,other) divided(ground,one,other)
        raised(ground,one,exponent) compared(one,other) rounded(one) read_at(prime,one) divisor_answer(one,other)
        rests_answer(pairs)""",
    "zeroorone.primes.primes": """is_prime(number) next_prime(number) prime_answer(number) prime_parts_answer(number)
        divisors(number) units_number(number) order_of(modulus,number) least_maker(prime)""",
}
CLASSES = {
    "zeroorone.errors": """PaperError InvalidGround InvalidPoly InvalidForm InvalidTable InvalidName InvalidClaim
        InvalidWish InvalidOperation ParseError InvalidNumber UnknownName NothingToUndo TooMany Refused""",
}
CONSTANTS = {
    "zeroorone.base.numbers": {"MAX_GROUND": 9999, "MAX_DIGITS": 60, "MAX_EXPONENT": 1000, "MAX_RESTS": 6},
    "zeroorone.primes.primes": {"MOST": 10 ** 8},
}


def definitions(module, kind):
    path = ROOT.joinpath(*module.split(".")).with_suffix(".py")
    return {node.name: node for node in ast.parse(path.read_text()).body if isinstance(node, kind)}


class Interface(unittest.TestCase):
    def test_functions_are_defined_in_their_files_with_their_arguments(self):
        for module, told in FUNCTIONS.items():
            found = definitions(module, ast.FunctionDef)
            for name, arguments in (one.rstrip(")").split("(") for one in told.split()):
                self.assertIn(name, found, module)
                function = getattr(importlib.import_module(module), name)
                self.assertEqual(",".join(inspect.signature(function).parameters), arguments, name)

    def test_classes_are_defined_in_their_files(self):
        for module, told in CLASSES.items():
            found = definitions(module, ast.ClassDef)
            for name in told.split():
                self.assertIn(name, found)

    def test_constants(self):
        for module, told in CONSTANTS.items():
            for name, value in told.items():
                self.assertEqual(getattr(importlib.import_module(module), name), value)

    def test_each_folder_has_an_init(self):
        for folder in [path for path in (ROOT / "zeroorone").rglob("*") if path.is_dir()] + [ROOT / "zeroorone"]:
            self.assertTrue(folder.name == "__pycache__" or (folder / "__init__.py").is_file(), folder)
