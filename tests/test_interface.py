"""The interface: names, parameters, and where each is defined."""

import importlib
import inspect
import unittest

from fourswaps.desks import Desk
from fourswaps.tables import Table

FUNCTIONS = {
    "tables": {"alike": "one other"},
    "swaps": {
        "pieces": "model first second", "keeps": "model first second columns", "swapped": "table first second columns",
        "swaps": "table", "neighbours": "table",
    },
    "webs": {"is_acyclic": "model", "order": "model", "hole": "model", "stay_apart": "model hole"},
    "walks": {"walk": "one other", "joined": "one other", "joined_tables": "table"},
    "fitting": {
        "clash": "model sums", "table_with": "model sums", "tables_with": "model sums", "sums_without": "model hole",
    },
    "ranges": {
        "span": "table row", "table_at": "table row count", "leaks": "table most", "hold_back": "table most",
    },
    "parting": {"parted": "model rows"},
    "telling": {"common_sets": "pairs"},
    "checker": {"accepts": "claim paper"},
    "papers": {
        "paper_of_web": "model", "paper_of_two": "one other", "paper_of_range": "table row",
        "paper_at": "table row count", "paper_of_sums": "model sums", "paper_of_none": "model hole",
    },
}
CLASSES = {
    "models": {"Model": {"__init__": "self text"}},
    "tables": {"Table": {"__init__": "self model counts", "count": "self row"}},
    "folders": {"Folder": {
        "__init__": "self table", "put": "self row times=1", "take": "self row times=1", "swap": "self first second columns",
        "undo": "self", "trial": "self", "tried": "self action",
    }},
    "desks": {"Desk": {
        "__init__": "self model", "remove": "self name", "claim": "self claim", "lift": "self index", "undo": "self",
        "trial": "self", "tried": "self action",
    }},
}
PROPERTIES = {
    "Model": "text columns levels lots rows", "Table": "model counts sums many", "Folder": "table counts sums many changes",
    "Desk": "model titles claims changes",
}


def parameters(function):
    """The names of the parameters with their default values; each can be given by place or by name."""
    told = inspect.signature(function).parameters.values()
    assert all(one.kind == one.POSITIONAL_OR_KEYWORD for one in told)
    return " ".join(str(one) for one in told)


class Interface(unittest.TestCase):
    def test_functions_are_defined_in_their_files(self):
        for name, functions in FUNCTIONS.items():
            module = importlib.import_module("fourswaps." + name)
            for function, names in functions.items():
                with self.subTest(name, function=function):
                    told = getattr(module, function)
                    self.assertTrue(inspect.isfunction(told))
                    self.assertEqual((told.__module__, told.__name__), ("fourswaps." + name, function))
                    self.assertEqual(parameters(told), names)

    def test_classes_and_their_methods_are_defined_in_their_files(self):
        for name, classes in CLASSES.items():
            module = importlib.import_module("fourswaps." + name)
            for made, methods in classes.items():
                told = getattr(module, made)
                self.assertEqual((told.__module__, told.__name__), ("fourswaps." + name, made))
                for method, names in methods.items():
                    with self.subTest(made, method=method):
                        self.assertEqual(parameters(vars(told)[method]), names)
                for one in PROPERTIES[made].split(" "):
                    with self.subTest(made, property=one):
                        self.assertIsInstance(vars(told)[one], property)
        for method in ("of", "__eq__", "__len__", "__bool__"):
            self.assertIn(method, vars(Table))
        self.assertEqual(parameters(Table.of), "model rows")
        for method in ("__setitem__", "__getitem__", "__contains__", "__len__", "__bool__"):
            self.assertIn(method, vars(Desk))


if __name__ == "__main__":
    unittest.main()
