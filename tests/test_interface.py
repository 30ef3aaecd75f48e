"""The interface: names, arguments, and the file in which each function and class is defined."""
import ast
import importlib
import inspect
import re
import unittest
from pathlib import Path

ROOT = Path(__file__).resolve().parent.parent

FUNCTIONS = {
    "zeroorone.base.numbers": """is_ground(value) is_number(ground,value) whole(ground,number) fraction(top,bottom)
        added(ground,one,other) subtracted(ground,one,other) multiplied(ground,one,other) divided(ground,one,other)
        raised(ground,one,exponent) compared(one,other) rounded(one) read_at(prime,one) divisor_answer(one,other)
        rests_answer(pairs)""",
    "zeroorone.primes.primes": """is_prime(number) next_prime(number) prime_answer(number) prime_parts_answer(number)
        divisors(number) units_number(number) order_of(modulus,number) least_maker(prime)""",
    "zeroorone.tables.solving": """is_table(ground,value) unit_table(ground,size) table_product(ground,one,other)
        reduced_rows(ground,table) leads(ground,table) rank(ground,table) kernel(ground,table)
        determinant(ground,table) undoing(ground,table) solve_answer(ground,table,vector) rank_answer(ground,table)""",
    "zeroorone.tables.whole": """whole_answer(table,vector) stairs(table) is_stairs(value) stairs_answer(table)
        steps(table) steps_answer(table)""",
    "zeroorone.tables.atleast": """slacks(table,goal,vector) is_reaching(table,goal,value) is_bar(table,goal,value)
        reach_answer(table,goal) greatest_answer(table,goal,wish) follow_answer(table,goal,wish,bound)
        bad_lots(table,goal)""",
    "zeroorone.letter.rests": """is_poly(ground,value) poly_sum(ground,one,other) poly_less(ground,one,other)
        poly_product(ground,one,other) poly_scaled(ground,poly,number) poly_power(ground,poly,many)
        poly_divided(ground,one,other) value_at(ground,poly,number) shifted(ground,poly,number) derived(ground,poly)
        monic_of(ground,poly) common_answer(ground,one,other) mix_answer(ground,one,other,wish)
        join_answer(ground,pairs) square_answer(ground,poly) resultant_answer(ground,one,other)""",
    "zeroorone.letter.modparts": """power_rest(ground,one,many,poly) turned_rest(ground,poly,many)
        same_powers(ground,poly) parts(ground,poly) parts_answer(ground,poly) unsplit_answer(ground,poly)
        is_unsplit(ground,poly) roots_in(ground,poly) unsplit_number(ground,many) first_unsplit(ground,many)""",
    "zeroorone.letter.lifted": """whole_of(poly) size_bound(whole) fitting_prime(poly)
        lifted(whole,prime,parts,many) fraction_parts(poly) fraction_parts_answer(poly)
        fraction_unsplit_answer(poly) fraction_roots(poly)""",
    "zeroorone.letter.chains": """roots_answer(poly,low,high) alone_answer(poly,low,high)
        sign_answer(one,other,low,high) root_order_answer(one,low,high,other,start,stop) root_stretches(poly)""",
    "zeroorone.many.terms": """is_form(ground,size,value) degree(ground,size,form) form_sum(ground,size,one,other)
        form_less(ground,size,one,other) form_product(ground,size,one,other) form_power(ground,size,form,many)
        head(ground,size,form,order) head_number(ground,size,form,order) monic_form(ground,size,form,order)
        value_at(ground,size,form,vector) put_in(ground,size,form,forms) in_letter(ground,size,poly,index)
        poly_of(ground,size,form,index) divided(ground,size,form,forms,order)
        is_division(ground,size,form,forms,order,value) crossed(ground,size,one,other,order)""",
    "zeroorone.many.bases": """reduced_basis(ground,size,order,forms) basis_answer(ground,size,order,forms)
        heads(ground,size,order,forms) rest(ground,size,order,forms,form) rest_multiples(ground,size,order,forms,form)
        is_basis(ground,size,order,value) is_reduced(ground,size,order,value)""",
    "zeroorone.many.within": """within_answer(ground,size,form,forms) lots_answer(ground,size,forms,others)
        taken_out_answer(ground,size,forms,many) meet_answer(ground,size,forms,others)
        quotient_answer(ground,size,forms,form) free_answer(ground,size,forms)""",
    "zeroorone.points.stairs": """finite_answer(ground,size,forms) standing(ground,size,forms)
        table_of(ground,size,forms,form) tables_answer(ground,size,forms) least_poly_answer(ground,size,forms,form)
        thinned(size,forms) telling_mix(size,forms)""",
    "zeroorone.points.points": """at_point(size,form,m,values) point_answer(size,zeros,others) all_points(size,zeros)
        fraction_points(size,zeros) is_wish(size,value) cases(size,wish) holds(size,wish,place) wish_answer(size,wish)
        alike_answer(size,one,other)""",
    "zeroorone.points.counts": """trace_of(size,forms,form) trace_table(size,forms,form) signs_of(table)
        change_of(table) is_change(table,value) complex_answer(size,forms) real_answer(size,forms)
        signed_answer(size,forms,form)""",
    "zeroorone.many.parted": """parted_form_answer(size,form) form_parts_answer(size,form)
        shifted_form(size,form,shifts)""",
    "zeroorone.primes.every": """every_kinds() led(claim,prime) led_paper(claim,paper,prime) but_number(claim,paper)
        every_answer(claim,paper) left_out_primes(number)""",
    "zeroorone.paper.checker": """kinds() is_claim(value) opposite(claim) takes(claim,paper)""",
    "zeroorone.book.book": """follows(claim,reason,known)""",
    "zeroorone.text.texts": """number_text(ground,number) poly_text(ground,poly) form_text(ground,size,form)
        read_number(ground,value) read_poly(ground,value) read_form(ground,size,value) value_text(value)
        read_value(value) book_text(book) read_book(value)""",
}
CLASSES = {
    "zeroorone.errors": """PaperError InvalidGround InvalidPoly InvalidForm InvalidTable InvalidName InvalidClaim
        InvalidWish InvalidOperation ParseError InvalidNumber UnknownName NothingToUndo TooMany Refused""",
    "zeroorone.book.book": "Book", "zeroorone.text.shell": "Shell",
}
# Each method stands in the class itself; @ is a class method, ! a property, and what is behind * goes by keyword.
METHODS = {
    ("zeroorone.book.book", "Book"): """@told(rows) state(name,claim,paper) lean(name,claim,reason) strike(name)
        rename(names) join(other) undo(*many=1) redo(*many=1) twin() rows() audit() claim(name) reason(name) leans(name)
        least(name) !names() !changes() __contains__(value) __len__() __eq__(other) __str__() __init__()""",
    ("zeroorone.text.shell", "Shell"): "say(line) run(lines) book() __str__() __init__()",
}
CONSTANTS = {
    "zeroorone.base.numbers": {"MAX_GROUND": 9999, "MAX_DIGITS": 60, "MAX_EXPONENT": 1000, "MAX_RESTS": 6},
    "zeroorone.primes.primes": {"MOST": 10 ** 8},
    "zeroorone.tables.solving": {"MAX_SIDE": 12},
    "zeroorone.tables.whole": {"MAX_WHOLE": 6},
    "zeroorone.tables.atleast": {"MOST_WISHES": 10, "MOST_LETTERS": 6, "MOST_TRIED": 6},
    "zeroorone.letter.rests": {"MAX_DEGREE": 12, "MOST_PAIRS": 4},
    "zeroorone.many.terms": {"MAX_FORM_DEGREE": 12, "MAX_FORMS": 6, "MAX_MADE_DEGREE": 60},
    "zeroorone.many.bases": {"MAX_JUDGED": 12},
    "zeroorone.points.points": {"MAX_DEGREE": 4, "MAX_ZEROS": 6, "MAX_OTHERS": 3, "MAX_CASES": 32, "MAX_DEPTH": 6},
    "zeroorone.many.parted": {"MAX_TOTAL": 4},
    "zeroorone.book.book": {"MAX_LINES": 60, "MAX_NAME": 8},
}


def definitions(module, kind):
    path = ROOT.joinpath(*module.split(".")).with_suffix(".py")
    return {node.name: node for node in ast.parse(path.read_text()).body if isinstance(node, kind)}


class Interface(unittest.TestCase):
    def test_functions_are_defined_in_their_files_with_their_arguments(self):
        for module, told in FUNCTIONS.items():
            found = definitions(module, ast.FunctionDef)
            for name, arguments in (one.rstrip(")").split("(") for one in told.split()):
                self.assertIn(name, found, module)
                function = getattr(importlib.import_module(module), name)
                self.assertEqual(",".join(inspect.signature(function).parameters), arguments, name)

    def test_classes_are_defined_in_their_files(self):
        for module, told in CLASSES.items():
            found = definitions(module, ast.ClassDef)
            for name in told.split():
                self.assertIn(name, found)

    def test_methods_are_defined_in_their_classes(self):
        for (module, name), told in METHODS.items():
            body = {node.name: node for node in definitions(module, ast.ClassDef)[name].body
                    if isinstance(node, ast.FunctionDef)}
            for sign, method, arguments in re.findall(r"([@!]?)(\w+)\((.*?)\)", told):
                node = body[method]
                decorators = {"@": ["classmethod"], "!": ["property"], "": []}[sign]
                self.assertEqual([decorator.id for decorator in node.decorator_list], decorators)
                kept = ["*" + one.arg + "=" + str(default.value)
                        for one, default in zip(node.args.kwonlyargs, node.args.kw_defaults)]
                found = [one.arg for one in node.args.args][1:] + kept
                self.assertEqual(",".join(found), arguments, method)

    def test_constants(self):
        for module, told in CONSTANTS.items():
            for name, value in told.items():
                self.assertEqual(getattr(importlib.import_module(module), name), value)

    def test_each_folder_has_an_init(self):
        for folder in [path for path in (ROOT / "zeroorone").rglob("*") if path.is_dir()] + [ROOT / "zeroorone"]:
            self.assertTrue(folder.name == "__pycache__" or (folder / "__init__.py").is_file(), folder)
