import inspect
import unittest

from passyards import blocks, errors, limits, lines

FUNCTIONS = {
    lines: {"is_line": ["thing"], "is_standing": ["line", "thing"], "capacity": ["line"], "trains": ["standing"],
            "place_of": ["standing", "train"], "counts": ["standing"]},
    blocks: {"order": ["line", "standing"], "joints": ["line", "many"], "blocks": ["line", "many"],
             "groups": ["line", "standing"], "block_of": ["line", "standing", "train"]},
}


class Interface(unittest.TestCase):
    def test_functions_stand_in_their_files_with_their_arguments(self):
        for module, functions in FUNCTIONS.items():
            for name, arguments in functions.items():
                with self.subTest(module=module.__name__, name=name):
                    function = getattr(module, name)
                    parameters = inspect.signature(function).parameters.values()
                    self.assertTrue(inspect.isfunction(function))
                    self.assertEqual(function.__module__, module.__name__)
                    self.assertEqual([parameter.name for parameter in parameters], arguments)
                    for parameter in parameters:
                        self.assertIs(parameter.kind, inspect.Parameter.POSITIONAL_OR_KEYWORD)
                        self.assertIs(parameter.default, inspect.Parameter.empty)

    def test_modules_have_their_names(self):
        self.assertEqual([module.__name__ for module in (blocks, errors, limits, lines)],
                         ["passyards.blocks", "passyards.errors", "passyards.limits", "passyards.lines"])


if __name__ == "__main__":
    unittest.main()
