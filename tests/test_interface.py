"""The whole interface: each name in its module, with the arguments told."""

import ast
import importlib
import inspect
import pathlib
import unittest

PACKAGE = pathlib.Path(__file__).parent.parent / "oftenasked"
FUNCTIONS = {
    "services": """is_service(value) are_alike(one,other) answers(service,row) stand(service,row)
        stands_come_to(service) least(service) parting(one,other)""",
    "again": """is_history(service,lot,window,value) bears(service,lot,window) heard(service,history) firsts(history)
        borne(service,window) harmful(service,window) greatest_part(service,window) window_of(service,lot)
        part(service,lot)""",
    "papers": """broken(service,lot,window) second_broken(service,lot,window) answers_again(service,lot,window)
        judged(service,lot,window,paper) paper(service,lot,window)""",
    "orders": "may_swap(service,one,other) can_lead(service,row,other) swaps(service)",
    "clerks": """clerked(service,clerk,history) wished(service,history) is_enough(clerk,window)
        does_serve(service,clerk,history) clerk_breaks(clerk,window)""",
    "lots": """beside(one,other) renamed(service,letters) can_answer(service,lot,window,row)
        are_alike_again(one,other,lot) row_again(one,other,lot)""",
    "reading": "check(text) printed(text) run(text)",
}
METHODS = "ask(self,ask) again(self,j) undo(self) history(self) answers(self) stand(self) would(self) text(self)"
ERRORS = """BadService() BadRow() Unlike() BadLot() BadWindow() BadHistory() NoAsk() NotBorne() Same() BadClerk() Shared()
    TooMany(most) BadLetters() NotText() InvalidText(place) BadAsks() Twice(name) BadAnswer() Lacking(name) Unknown(name)
    NoStand() TooLong(most) NoSuch() NothingDone()"""


def told(names):
    """Each name of a list with its arguments."""
    return {name.split("(")[0]: [part for part in name.split("(")[1][:-1].split(",") if part] for name in names.split()}


def defined(module):
    """What a file of the package defines itself."""
    return {node.name: node for node in ast.parse((PACKAGE / (module + ".py")).read_text()).body if hasattr(node, "name")}


class Interface(unittest.TestCase):
    def test_functions(self):
        for module, names in FUNCTIONS.items():
            found = importlib.import_module("oftenasked." + module)
            for name, arguments in told(names).items():
                self.assertIsInstance(defined(module).get(name), ast.FunctionDef, name)
                parameters = inspect.signature(getattr(found, name)).parameters
                self.assertEqual(list(parameters), arguments, name)
                self.assertTrue(all(part.default is part.empty for part in parameters.values()), name)

    def test_the_desk(self):
        desk = defined("desks")["Desk"]
        self.assertIsInstance(desk, ast.ClassDef)
        found = importlib.import_module("oftenasked.desks").Desk
        self.assertEqual(list(inspect.signature(found).parameters), ["service"])
        methods = [node.name for node in desk.body if isinstance(node, ast.FunctionDef)]
        for name, arguments in told(METHODS).items():
            self.assertIn(name, methods)
            self.assertEqual(list(inspect.signature(getattr(found, name)).parameters), arguments, name)

    def test_errors(self):
        found = importlib.import_module("oftenasked.errors")
        self.assertEqual(found.ServiceError.__bases__, (ValueError,))
        for name, fields in told(ERRORS).items():
            self.assertIsInstance(defined("errors").get(name), ast.ClassDef, name)
            error = getattr(found, name)
            self.assertEqual(error.__bases__, (found.ServiceError,), name)
            self.assertEqual(vars(error(*range(7, 7 + len(fields)))), {field: 7 for field in fields}, name)


if __name__ == "__main__":
    unittest.main()
