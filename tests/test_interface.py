"""The names and arguments of the interface, each defined in its own file."""

import ast
import pathlib
import unittest

PACKAGE = pathlib.Path(__file__).resolve().parent.parent / "numbertexts"

FUNCTIONS = {
    "lines": {
        "value_at": "line x", "rest_at": "line x", "sum_of": "line low high", "sum_rows": "line low high",
        "sum_rows_hold": "line low high value",
    },
    "formats": {
        "is_format": "value", "format_error": "value", "told_format": "name", "count_of": "form",
        "value_of": "form code", "code_of": "form m e",
    },
    "stairs": {
        "stair_at": "stair x", "sum_of_stair": "stair low high", "first_above": "lower upper low high",
    },
    "decimals": {"is_decimal": "value", "plain_decimal": "decimal", "compare": "one other"},
    "reading": {
        "is_way": "value", "position": "form num den", "read": "form way decimal", "around": "form decimal",
    },
    "ranges": {"range_of": "form way code", "is_read_as": "form way code decimal"},
    "parted": {
        "first_parted": "one other low high", "count_parted": "one other low high",
        "parted_at": "one other low high index",
    },
    "hits": {
        "count_hits": "line window low high", "first_hit": "line window low high",
        "hit_at": "line window low high index", "each_hit": "line window low high", "least_rest": "line low high",
        "greatest_rest": "line low high", "members": "line low high * parity=None",
    },
    "rows": {
        "row_error": "value", "is_sound": "row", "cut_row": "power bits", "plain_read": "form way row number",
        "guarded_read": "form way row number",
    },
    "wrongs": {
        "first_wrong": "form way word row", "each_wrong": "form way word row", "count_wrong": "form way word row",
        "wrong_at": "form way word row index", "first_slow": "form way word row", "count_slow": "form way word row",
        "slow_at": "form way word row index",
    },
    "paths": {
        "path_error": "value", "read_by": "form way path decimal", "path_fault": "form way path",
        "needed_guards": "form way word rows", "fewest_bits": "form way word power * guarded=False",
    },
    "printrows": {
        "place_of": "exponent", "print_row_error": "value", "cut_print_row": "exponent bits",
        "fast_shortest": "form way row code", "first_wrong_print": "form row", "count_wrong_print": "form row",
        "fewest_print_bits": "form exponent",
    },
    "steps": {
        "stepped_row": "step bits power", "correction": "step bits power", "corrected_row": "step bits power",
        "step_faults": "form way word step bits low high", "greatest_step": "form way word bits low high",
        "fewest_step_bits": "form way word step low high",
    },
    "lengths": {
        "length_of": "form code", "longest_length": "form", "count_length": "form digits", "up_to": "form digits code",
        "code_with_length": "form digits index",
    },
    "hard": {
        "count_ties": "form power word", "tie_at": "form power word index", "hardest": "form power word",
        "count_near": "form power word num den", "near_at": "form power word num den index",
        "each_near": "form power word num den",
    },
    "printing": {
        "shortest": "form way code", "exact": "form code", "rounded": "form code digits", "fixed": "form code place",
    },
    "trips": {
        "is_enough": "form digits", "least_lost": "form digits", "count_lost": "form digits",
        "lost_at": "form digits index", "digits_enough": "form", "is_kept": "form digits", "least_dropped": "form digits",
        "count_dropped": "form digits", "dropped_at": "form digits index", "digits_kept": "form",
    },
    "deciding": {
        "deciding_digits": "form way", "least_undecided": "form way digits", "undecided_pair": "form way digits",
    },
    "texts": {
        "parse_text": "value", "read_text": "form way value", "number_text": "form way sign code * style='auto'",
        "hex_text": "form sign code",
    },
}

CLASSES = {
    "values": {
        "Number": {
            "__init__": "self form code", "__add__": "self steps", "__sub__": "self other", "__contains__": "self value",
            "__len__": "self", "__str__": "self", "__eq__": "self other", "moved": "self form", "is_less": "self other",
        },
        "Reader": {"__init__": "self form way path", "__call__": "self decimal"},
    },
    "promises": {"Pledge": {"__init__": "self most", "spare": "self number"}},
    "desks": {
        "Desk": {
            "__init__": "self form way word", "put": "self power g s h", "drop": "self power", "guard": "self power",
            "unguard": "self power", "turn": "self way", "undo": "self", "attempt": "self edits * watch=None",
            "read": "self text", "state": "self * version=None", "walk": "self * version=None", "edits": "self",
            "__len__": "self", "__str__": "self", "__eq__": "self other",
        },
        "SureDesk": {"__init__": "self form way word most"},
    },
    "consoles": {"Console": {"__init__": "self desk", "execute": "self line"}},
}


def functions_of(nodes):
    return {node.name: ast.unparse(node.args).replace(",", "") for node in nodes if isinstance(node, ast.FunctionDef)}


def body_of(name):
    return ast.parse((PACKAGE / f"{name}.py").read_text()).body


def functions_in(name):
    return functions_of(body_of(name))


def classes_in(name):
    return {node.name: functions_of(node.body) for node in body_of(name) if isinstance(node, ast.ClassDef)}


class Interface(unittest.TestCase):
    def test_functions_and_arguments(self):
        for name, wanted in FUNCTIONS.items():
            found = functions_in(name)
            for function, arguments in wanted.items():
                self.assertEqual(found.get(function), arguments, (name, function))

    def test_classes_with_the_methods_in_their_own_bodies(self):
        for name, wanted in CLASSES.items():
            found = classes_in(name)
            for told, methods in wanted.items():
                for method, arguments in methods.items():
                    self.assertEqual(found[told].get(method), arguments, (name, told, method))


if __name__ == "__main__":
    unittest.main()
