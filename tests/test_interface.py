"""The interface: its names and arguments, as the document has them."""

import importlib
import inspect
import unittest

FUNCTIONS = {
    "shapes": {"even_turns": "planks, step"},
    "lines": {"told_of": "field, lines, known, place", "plain_weights": "data, sums"},
    "reading": {"read_role": "asking, role"},
    "writing": {"new_blocks": "asking, news"},
    "spares": {"step_spare": "row, plank", "run_spare": "row, plank, many"},
    "verdicts": {"verdict_of": "code, row"},
    "walks": {"walk_through": "row", "mend_stripe": "row, stripe"},
    "papers": {"shown_block": "blocks, block", "read_block": "blocks, text", "paper_of": "row, stripe"},
}
PLANK = {"there": "at", "price": "", "word": "", "look_at": "at", "lay_at": "at, block"}
CLASSES = {
    ("field", "Field", "rule"): {"double": "one", "times": "one, other", "back": "one", "power": "one, many",
                                 "table": "one"},
    ("blocks", "Blocks", "field, many"): {"good": "block", "symbols": "block", "joined": "some", "double": "block",
                                          "scaled": "factor, block", "summed": "factors, some"},
    ("shapes", "Shape", "data, planks, stripes, turns"): {
        "place_of": "at", "number_of": "stripe, role", "plank_of": "stripe, role", "role_of": "stripe, plank",
        "order_of": "stripe"},
    ("codes", "Code", "blocks, weights"): {
        "equations": "", "touches": "total, role", "made": "some", "is_make": "row", "told": "known, role",
        "fixes": "known, role", "reckoned": "row, role", "filled": "row", "paper": "row"},
    ("planks", "Plank", "held"): PLANK,
    ("planks", "SlowPlank", "held, cost"): PLANK,
    ("planks", "LostPlank", "many"): PLANK,
    ("planks", "SparePlank", "held"): dict(PLANK, move=""),
    ("racks", "Rack", "planks, stripes, slots"): {
        "lose": "plank", "put_spare": "plank, some=None", "make_slow": "plank, cost", "spoil": "plank, stripe",
        "lie": "plank, stripe, block", "supply": "left=None", "lay": "plank, stripe, block",
        "note": "slot, stripe, pairs", "strike": "slot", "move_mark": "plank", "peek": "plank, stripe",
        "kind_of": "plank", "cost_of": "plank", "mark_of": "plank", "there": "plank, stripe", "has_power": "",
        "intents": "", "events": "", "look": "plank, stripe"},
    ("asking", "Asking", "code, ask, costs"): {"may": "role", "take": "role", "fixes": "some", "price": "some",
                                               "detour": "some", "block_of": "role"},
    ("rows", "Row", "code, shape, rack"): {"get": "at", "put": "at, some", "up": "", "standing": "", "ready": "",
                                           "asking": "stripe"},
    ("desk", "Desk", ""): {"say": "line"},
}


def arguments(function):
    """The arguments of a function or method, but for self."""
    given = [one for one in inspect.signature(function).parameters.values() if one.name != "self"]
    return ", ".join(str(one) for one in given)


class InterfaceTest(unittest.TestCase):

    def test_functions(self):
        for module, functions in FUNCTIONS.items():
            found = importlib.import_module("spareplank." + module)
            for name, due in functions.items():
                self.assertEqual((name, arguments(getattr(found, name))), (name, due))

    def test_classes(self):
        for (module, name, due), methods in CLASSES.items():
            found = getattr(importlib.import_module("spareplank." + module), name)
            self.assertEqual((name, arguments(found.__init__) if due else ""), (name, due))
            for method, given in methods.items():
                self.assertEqual((name, method, arguments(getattr(found, method))), (name, method, given))


if __name__ == "__main__":
    unittest.main()
