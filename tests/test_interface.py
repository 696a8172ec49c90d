"""The names of the interface stand in their files, with their arguments."""

import importlib
import inspect
import unittest

FUNCTIONS = {
    "times": {
        "cell_of": "(time, width)", "cells": "(start, end, width)", "tidy": "(stretches)", "joined": "(one, two)",
        "met": "(one, two)", "less": "(one, two)",
    },
    "labels": {"meets": "(labels, wishes)"},
    "folds": {
        "fold_of": "(points)", "together": "(one, two)", "beside": "(one, two)", "asked": "(fold, what)",
    },
    "columns": {
        "plain": "(number, width)", "own": "(number)", "turned": "(number)", "back": "(number)",
        "own_size": "(number)", "read_own": "(bits, at)", "size_by": "(numbers, way)",
        "pack": "(numbers, *, way=None)", "read_column": "(way, bits, many)",
    },
    "checks": {"check": "(line)"},
    "rows": {
        "known": "(rows, number)", "changes": "(rows, one, two)", "needless": "(rows, number)",
        "thinned": "(rows, number)", "poured": "(one, two)",
    },
}

# Of each class what it is made of (None where the interface doesn't tell it), and its methods.
CLASSES = {
    "labels": {
        "Labels": ("(pairs=())", {}),
        "Names": ("()", {
            "add": "(self, labels)", "labels_at": "(self, place)", "found": "(self, wishes)", "key_list": "(self)",
            "texts_of": "(self, key)",
        }),
    },
    "folds": {
        "Fold": (
            "(*, count=0, total=0, squares=0, least=None, greatest=None, first=None, last=None, rise=0, held=0)", {},
        ),
    },
    "columns": {
        "Column": (None, {
            "unpacked": "(self)", "part": "(self, start, end)", "one": "(self, place)", "looked": "(self)",
        }),
    },
}


def module_of(name):
    return importlib.import_module(f"timegranary.{name}")


class Interface(unittest.TestCase):
    def test_functions(self):
        for file_name, functions in FUNCTIONS.items():
            for name, arguments in functions.items():
                with self.subTest(f"{file_name}.{name}"):
                    function = getattr(module_of(file_name), name)
                    self.assertEqual(function.__module__, f"timegranary.{file_name}")
                    self.assertEqual(str(inspect.signature(function)), arguments)

    def test_classes_and_their_own_methods(self):
        for file_name, classes in CLASSES.items():
            for name, (arguments, methods) in classes.items():
                with self.subTest(f"{file_name}.{name}"):
                    made = getattr(module_of(file_name), name)
                    self.assertEqual(made.__module__, f"timegranary.{file_name}")
                    if arguments is not None:
                        self.assertEqual(str(inspect.signature(made)), arguments)
                    for method, told in methods.items():
                        self.assertEqual(str(inspect.signature(vars(made)[method])), told)


if __name__ == "__main__":
    unittest.main()
