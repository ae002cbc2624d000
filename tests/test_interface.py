"""The names and arguments of the interface, each defined in its own file."""

import ast
import pathlib
import unittest

PACKAGE = pathlib.Path(__file__).resolve().parent.parent / "numbertexts"

FUNCTIONS = {
    "lines": {
        "value_at": "line x", "rest_at": "line x", "sum_of": "line low high", "sum_rows": "line low high",
        "sum_rows_hold": "line low high value",
    },
    "formats": {
        "is_format": "value", "format_error": "value", "told_format": "name", "count_of": "form",
        "value_of": "form code", "code_of": "form m e",
    },
    "stairs": {
        "stair_at": "stair x", "sum_of_stair": "stair low high", "first_above": "lower upper low high",
    },
    "decimals": {"is_decimal": "value", "plain_decimal": "decimal", "compare": "one other"},
    "reading": {
        "is_way": "value", "position": "form num den", "read": "form way decimal", "around": "form decimal",
    },
    "ranges": {"range_of": "form way code", "is_read_as": "form way code decimal"},
}


def functions_in(name):
    tree = ast.parse((PACKAGE / f"{name}.py").read_text())
    return {node.name: " ".join(arg.arg for arg in node.args.args)
            for node in tree.body if isinstance(node, ast.FunctionDef)}


class Interface(unittest.TestCase):
    def test_functions_and_arguments(self):
        for name, wanted in FUNCTIONS.items():
            found = functions_in(name)
            for function, arguments in wanted.items():
                self.assertEqual(found.get(function), arguments, (name, function))


if __name__ == "__main__":
    unittest.main()
