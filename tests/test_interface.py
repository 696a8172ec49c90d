"""The names of the interface stand in their files, with their arguments."""

import importlib
import inspect
import unittest

STORE_MADE = "widths=(60, 3600), keeps=(None, None, None)"

FUNCTIONS = {
    "times": {
        "cell_of": "(time, width)", "cells": "(start, end, width)", "tidy": "(stretches)", "joined": "(one, two)",
        "met": "(one, two)", "less": "(one, two)",
    },
    "labels": {"meets": "(labels, wishes)"},
    "folds": {
        "fold_of": "(points)", "together": "(one, two)", "beside": "(one, two)", "asked": "(fold, what)",
    },
    "columns": {
        "plain": "(number, width)", "own": "(number)", "turned": "(number)", "back": "(number)",
        "own_size": "(number)", "read_own": "(bits, at)", "size_by": "(numbers, way)",
        "pack": "(numbers, *, way=None)", "read_column": "(way, bits, many)",
    },
    "checks": {"check": "(line)"},
    "rows": {
        "known": "(rows, number)", "changes": "(rows, one, two)", "needless": "(rows, number)",
        "thinned": "(rows, number)", "poured": "(one, two)",
    },
    "blocks": {"read_block": "(text)"},
    "logs": {"line_of": "(number, body, *, sign='.')", "read_line": "(line)", "read_log": "(text)"},
    "plans": {
        "least_plan": "(start, end, *, horizon=None, cells=(), points=())",
        "is_plan": "(pieces, start, end, *, horizon=None, cells=())", "cost_of": "(pieces, points)",
        "shows_least": "(thing, start, end, *, horizon=None, cells=(), points=())",
    },
    "shelves": {"level": "(weight)"},
    "store": {"come_up": f"(text, *, mark=None, {STORE_MADE})"},
    "asks": {
        "answered": "(store, ask, frame, *, number=None)", "parts_of": "(ask)", "shorter": "(ask)",
    },
    "texts": {
        "wishes_text": "(wishes)", "deed_text": "(deed)", "ask_text": "(ask)", "fold_text": "(fold)",
        "read_labels": "(text)", "read_wishes": "(text)", "read_deed": "(text)", "read_ask": "(text)",
    },
    "houses": {"alike": "(one, two)", "store_of": f"(house, *, {STORE_MADE})"},
}

# Of each class what it is made of (None where the interface doesn't tell it), and its methods.
CLASSES = {
    "labels": {
        "Labels": ("(pairs=())", {}),
        "Names": ("()", {
            "add": "(self, labels)", "labels_at": "(self, place)", "found": "(self, wishes)", "key_list": "(self)",
            "texts_of": "(self, key)",
        }),
    },
    "folds": {
        "Fold": (
            "(*, count=0, total=0, squares=0, least=None, greatest=None, first=None, last=None, rise=0, held=0)", {},
        ),
    },
    "columns": {
        "Column": (None, {
            "unpacked": "(self)", "part": "(self, start, end)", "one": "(self, place)", "looked": "(self)",
        }),
    },
    "blocks": {
        "Block": ("(rows, *, weight=None)", {
            "places": "(self)", "columns_of": "(self, place)", "rows_in": "(self, place, start, end)",
            "extents": "(self)", "text": "(self)",
        }),
    },
    "logs": {
        "Log": ("()", {
            "write": "(self, body)", "mark": "(self, body)", "bundle": "(self, bodies)", "lines": "(self)",
            "text": "(self)", "trimmed": "(self)",
        }),
    },
    "grains": {
        "Grains": ("(widths)", {
            "renew": "(self, place, times, points_in, *, number)", "fold_at": "(self, place, width, time)",
            "since_at": "(self, place, width, time)", "cells_of": "(self, place, width)",
            "let_go": "(self, width, time)", "right": "(self, place, points)",
        }),
    },
    "keeping": {
        "Keeping": ("(widths, keeps)", {
            "expire": "(self, now)", "gone_before": "(self, width=None)", "finest": "(self, time)",
        }),
        "Edges": ("()", {"moved": "(self, place, points, horizon)", "edge_of": "(self, place)"}),
    },
    "shelves": {
        "Shelf": ("(blocks=())", {
            "laid": "(self, block)", "forgotten": "(self, number)", "let_go": "(self, time)", "weights": "(self)",
            "rows_of": "(self, place, start, end)", "block_texts": "(self)",
        }),
    },
    "store": {
        "Store": (f"(*, {STORE_MADE})", {
            "put": "(self, labels, time, worth)", "put_all": "(self, rows)", "strike": "(self, wishes, start, end)",
            "expire": "(self, now)", "forget": "(self, number)", "flush": "(self)", "weights": "(self)",
            "found": "(self, wishes, *, number=None)", "points": "(self, wishes, start, end, *, number=None)",
            "folds": "(self, wishes, start, end, *, number=None)",
            "windows": "(self, wishes, start, *, step, many=1, number=None)",
            "latest": "(self, labels, time, *, number=None)", "plan": "(self, labels, start, end, *, number=None)",
            "snapshot": "(self)", "lines": "(self)", "mark": "(self)",
            "watch": "(self, wishes, start, *, width, many=1)",
        }),
        "Snapshot": (None, {
            "found": "(self, wishes)", "points": "(self, wishes, start, end)", "folds": "(self, wishes, start, end)",
            "windows": "(self, wishes, start, *, step, many=1)", "latest": "(self, labels, time)",
            "plan": "(self, labels, start, end)",
        }),
    },
    "watchers": {"Watch": (None, {"told": "(self)", "now": "(self)"})},
    "asks": {"Frame": ("(start, step, many=1)", {})},
    "desk": {
        "Desk": (f"(*, {STORE_MADE})", {"say": "(self, row)", "say_all": "(self, rows, *, stop=True)"}),
    },
    "houses": {
        "House": ("(name)", {
            "put": "(self, labels, time, worth)", "strike": "(self, wishes, start, end)", "hear": "(self, deed)",
            "points": "(self, labels)", "series": "(self)", "stamps": "(self)", "letter": "(self, stamps)",
        }),
    },
}

# The fields that the interface lists, of objects as they are made.
FIELDS = (
    (lambda: module_of("store").Store(), ("number",)),
    (lambda: module_of("asks").Frame(0, 1), ("start", "step", "many")),
    (lambda: module_of("desk").Desk(), ("heard", "done", "ready")),
    (lambda: module_of("houses").House("a"), ("name",)),
)


def module_of(name):
    return importlib.import_module(f"timegranary.{name}")


class Interface(unittest.TestCase):
    def test_functions(self):
        for file_name, functions in FUNCTIONS.items():
            for name, arguments in functions.items():
                with self.subTest(f"{file_name}.{name}"):
                    function = getattr(module_of(file_name), name)
                    self.assertEqual(function.__module__, f"timegranary.{file_name}")
                    self.assertEqual(str(inspect.signature(function)), arguments)

    def test_classes_and_their_own_methods(self):
        for file_name, classes in CLASSES.items():
            for name, (arguments, methods) in classes.items():
                with self.subTest(f"{file_name}.{name}"):
                    made = getattr(module_of(file_name), name)
                    self.assertEqual(made.__module__, f"timegranary.{file_name}")
                    if arguments is not None:
                        self.assertEqual(str(inspect.signature(made)), arguments)
                    for method, told in methods.items():
                        self.assertEqual(str(inspect.signature(vars(made)[method])), told)

    def test_fields_are_there_when_an_object_is_made(self):
        for make, names in FIELDS:
            made = make()
            for name in names:
                self.assertIn(name, vars(made))

    def test_widths_and_keeps(self):
        self.assertEqual(module_of("store").WIDTHS, (60, 3600))
        self.assertEqual(module_of("store").KEEPS, (None, None, None))

    def test_objects_are_never_equal_to_things_of_another_kind(self):
        store = module_of("store").Store()
        things = [
            store, store.snapshot(), store.watch([], 0, width=1), module_of("shelves").Shelf(),
            module_of("asks").Frame(0, 1), module_of("desk").Desk(), module_of("houses").House("a"),
        ]
        for at, thing in enumerate(things):
            for other in [*things[:at], *things[at + 1:], None, 0, "a", (), [], {}, "-"]:
                self.assertFalse(thing == other)
                self.assertTrue(thing != other)


if __name__ == "__main__":
    unittest.main()
