"""The names of the interface stand in their files, with their arguments."""

import importlib
import inspect
import unittest

FUNCTIONS = {
    "times": {
        "cell_of": "(time, width)", "cells": "(start, end, width)", "tidy": "(stretches)", "joined": "(one, two)",
        "met": "(one, two)", "less": "(one, two)",
    },
    "labels": {"meets": "(labels, wishes)"},
    "folds": {
        "fold_of": "(points)", "together": "(one, two)", "beside": "(one, two)", "asked": "(fold, what)",
    },
    "columns": {
        "plain": "(number, width)", "own": "(number)", "turned": "(number)", "back": "(number)",
        "own_size": "(number)", "read_own": "(bits, at)", "size_by": "(numbers, way)",
        "pack": "(numbers, *, way=None)", "read_column": "(way, bits, many)",
    },
    "checks": {"check": "(line)"},
    "rows": {
        "known": "(rows, number)", "changes": "(rows, one, two)", "needless": "(rows, number)",
        "thinned": "(rows, number)", "poured": "(one, two)",
    },
    "blocks": {"read_block": "(text)"},
    "logs": {"line_of": "(number, body, *, sign='.')", "read_line": "(line)", "read_log": "(text)"},
}

# Of each class what it is made of (None where the interface doesn't tell it), and its methods.
CLASSES = {
    "labels": {
        "Labels": ("(pairs=())", {}),
        "Names": ("()", {
            "add": "(self, labels)", "labels_at": "(self, place)", "found": "(self, wishes)", "key_list": "(self)",
            "texts_of": "(self, key)",
        }),
    },
    "folds": {
        "Fold": (
            "(*, count=0, total=0, squares=0, least=None, greatest=None, first=None, last=None, rise=0, held=0)", {},
        ),
    },
    "columns": {
        "Column": (None, {
            "unpacked": "(self)", "part": "(self, start, end)", "one": "(self, place)", "looked": "(self)",
        }),
    },
    "blocks": {
        "Block": ("(rows, *, weight=None)", {
            "places": "(self)", "columns_of": "(self, place)", "rows_in": "(self, place, start, end)",
            "extents": "(self)", "text": "(self)",
        }),
    },
    "logs": {
        "Log": ("()", {
            "write": "(self, body)", "mark": "(self, body)", "bundle": "(self, bodies)", "lines": "(self)",
            "text": "(self)", "trimmed": "(self)",
        }),
    },
    "grains": {
        "Grains": ("(widths)", {
            "renew": "(self, place, times, points_in, *, number)", "fold_at": "(self, place, width, time)",
            "since_at": "(self, place, width, time)", "cells_of": "(self, place, width)",
            "let_go": "(self, width, time)", "right": "(self, place, points)",
        }),
    },
    "keeping": {
        "Keeping": ("(widths, keeps)", {
            "expire": "(self, now)", "gone_before": "(self, width=None)", "finest": "(self, time)",
        }),
        "Edges": ("()", {"moved": "(self, place, points, horizon)", "edge_of": "(self, place)"}),
    },
}


def module_of(name):
    return importlib.import_module(f"timegranary.{name}")


class Interface(unittest.TestCase):
    def test_functions(self):
        for file_name, functions in FUNCTIONS.items():
            for name, arguments in functions.items():
                with self.subTest(f"{file_name}.{name}"):
                    function = getattr(module_of(file_name), name)
                    self.assertEqual(function.__module__, f"timegranary.{file_name}")
                    self.assertEqual(str(inspect.signature(function)), arguments)

    def test_classes_and_their_own_methods(self):
        for file_name, classes in CLASSES.items():
            for name, (arguments, methods) in classes.items():
                with self.subTest(f"{file_name}.{name}"):
                    made = getattr(module_of(file_name), name)
                    self.assertEqual(made.__module__, f"timegranary.{file_name}")
                    if arguments is not None:
                        self.assertEqual(str(inspect.signature(made)), arguments)
                    for method, told in methods.items():
                        self.assertEqual(str(inspect.signature(vars(made)[method])), told)


if __name__ == "__main__":
    unittest.main()
