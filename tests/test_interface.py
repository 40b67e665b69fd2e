"""The interface: each listed name stands in its own file and takes its arguments by their places."""

import ast
import pathlib
import unittest

PACKAGE = pathlib.Path(__file__).resolve().parent.parent / "sparenext"

FUNCTIONS = {
    "ways": {"distance": ("net", "a", "t"), "way_count": ("net", "a", "t"), "is_way": ("net", "houses"),
             "next_houses": ("net", "a", "t"), "next_house": ("net", "a", "t"), "least_way": ("net", "a", "t")},
    "sending": {"next_table": ("net", "t"), "sent_on": ("table", "start", "target"), "ring_or_numbers": ("table",)},
    "spares": {"spares_of": ("net", "a", "t", "word"), "spare_of": ("net", "a", "t", "word"),
               "spares_told": ("net", "t", "word")},
    "falls": {"fallen_table": ("net", "t", "fall"), "walked_all": ("net", "t", "fall"),
              "lost_houses": ("net", "t", "fall")},
    "fewest": {"tie_targets": ("net", "a", "e"), "tie_servers": ("net", "a", "e"), "fewest_spares": ("net", "a", "e")},
    "handing": {"near_houses": ("net", "a", "e"), "far_houses": ("net", "a", "e"), "handed_over": ("net", "a", "e"),
                "handed_way": ("net", "a", "e")},
    "trees": {"trees_apart": ("net", "t", "word", "one", "other"), "two_trees": ("net", "t", "word")},
    "changing": {"change_or_ring": ("old", "new"), "is_change_ring": ("old", "new", "houses"),
                 "are_change_numbers": ("old", "new", "numbers"), "change_order": ("one", "other", "t"),
                 "order_holds": ("old", "new", "order")},
    "stepping": {"weight_steps": ("net", "a", "b", "weight", "targets"), "weight_stretch": ("net", "a", "b"),
                 "reached_pairs": ("one", "other")},
    "learning": {"learning_order": ("net", "t", "fall"), "learning_or_ring": ("net", "t", "fall")},
    "gaining": {"bare_pairs": ("net", "word"), "best_tie": ("net", "weight", "word")},
    "double": {"doubled": ("net", "t", "one", "other", "start", "falls")},
    "loads": {"loads": ("net", "fall"), "heaviest": ("net", "word")},
    "texts": {"net_text": ("net",), "table_text": ("table",), "read_net": ("text",)},
}

# What an object is made of, where the interface tells it, and the methods.
CLASSES = {
    "errors": {name: (None, {}) for name in ("SpareError", "NoCount", "NoWord", "NoNeed", "NoTree", "NoLine",
                                             "NoHouse", "NoTie", "NoWeight", "NotLike", "NoText", "NoName")},
    "nets": {"Net": (("count", "ties"),
                     {"neighbours": ("a",), "weight": ("a", "b"), "without": ("fall",)})},
    "desk": {"Desk": ((), {"tell": ("line",)})},
}


def defined(file, kind):
    """Tells what a file of the package defines of this kind, by names."""
    tree = ast.parse((PACKAGE / f"{file}.py").read_text(encoding="utf-8"))
    return {node.name: node for node in tree.body if isinstance(node, kind)}


def places(function):
    """Tells the names of the arguments; fails where they can't be handed in by their places alone."""
    arguments = function.args
    assert not (arguments.vararg or arguments.kwarg or arguments.kwonlyargs or arguments.defaults), function.name
    return tuple(argument.arg for argument in arguments.posonlyargs + arguments.args)


class InterfaceTest(unittest.TestCase):
    def test_functions(self):
        for file, listed in FUNCTIONS.items():
            found = defined(file, ast.FunctionDef)
            for name, wanted in listed.items():
                self.assertEqual(places(found[name]), wanted)

    def test_classes(self):
        for file, listed in CLASSES.items():
            found = defined(file, ast.ClassDef)
            for name, (wanted, methods) in listed.items():
                own = {node.name: node for node in found[name].body if isinstance(node, ast.FunctionDef)}
                if wanted is not None:
                    self.assertEqual(places(own["__init__"])[1:], wanted)
                for method, named in methods.items():
                    self.assertEqual(places(own[method])[1:], named)


if __name__ == "__main__":
    unittest.main()
