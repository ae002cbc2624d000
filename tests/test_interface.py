"""The names and arguments of the interface, each defined in its own file."""

import ast
import pathlib
import unittest

PACKAGE = pathlib.Path(__file__).resolve().parent.parent / "numbertexts"

FUNCTIONS = {
    "lines": {
        "value_at": "line x", "rest_at": "line x", "sum_of": "line low high", "sum_rows": "line low high",
        "sum_rows_hold": "line low high value",
    },
    "formats": {
        "is_format": "value", "format_error": "value", "told_format": "name", "count_of": "form",
        "value_of": "form code", "code_of": "form m e",
    },
    "stairs": {
        "stair_at": "stair x", "sum_of_stair": "stair low high", "first_above": "lower upper low high",
    },
    "decimals": {"is_decimal": "value", "plain_decimal": "decimal", "compare": "one other"},
    "reading": {
        "is_way": "value", "position": "form num den", "read": "form way decimal", "around": "form decimal",
    },
    "ranges": {"range_of": "form way code", "is_read_as": "form way code decimal"},
    "parted": {
        "first_parted": "one other low high", "count_parted": "one other low high",
        "parted_at": "one other low high index",
    },
    "hits": {
        "count_hits": "line window low high", "first_hit": "line window low high",
        "hit_at": "line window low high index", "each_hit": "line window low high", "least_rest": "line low high",
        "greatest_rest": "line low high", "members": "line low high * parity=None",
    },
    "rows": {
        "row_error": "value", "is_sound": "row", "cut_row": "power bits", "plain_read": "form way row number",
        "guarded_read": "form way row number",
    },
    "printrows": {
        "place_of": "exponent", "print_row_error": "value", "cut_print_row": "exponent bits",
        "fast_shortest": "form way row code", "first_wrong_print": "form row", "count_wrong_print": "form row",
        "fewest_print_bits": "form exponent",
    },
    "printing": {
        "shortest": "form way code", "exact": "form code", "rounded": "form code digits", "fixed": "form code place",
    },
    "trips": {
        "is_enough": "form digits", "least_lost": "form digits", "count_lost": "form digits",
        "lost_at": "form digits index", "digits_enough": "form", "is_kept": "form digits", "least_dropped": "form digits",
        "count_dropped": "form digits", "dropped_at": "form digits index", "digits_kept": "form",
    },
    "deciding": {
        "deciding_digits": "form way", "least_undecided": "form way digits", "undecided_pair": "form way digits",
    },
    "texts": {
        "parse_text": "value", "read_text": "form way value", "number_text": "form way sign code * style='auto'",
        "hex_text": "form sign code",
    },
}


def functions_in(name):
    tree = ast.parse((PACKAGE / f"{name}.py").read_text())
    return {node.name: ast.unparse(node.args).replace(",", "") for node in tree.body if isinstance(node, ast.FunctionDef)}


class Interface(unittest.TestCase):
    def test_functions_and_arguments(self):
        for name, wanted in FUNCTIONS.items():
            found = functions_in(name)
            for function, arguments in wanted.items():
                self.assertEqual(found.get(function), arguments, (name, function))


if __name__ == "__main__":
    unittest.main()
