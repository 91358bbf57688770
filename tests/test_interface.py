"""The interface: every name that it tells is there, with its arguments and what they are when left out."""

import importlib
import inspect
import unittest

NONE = inspect.Parameter.empty
RUN = [("text", NONE), ("numbers", NONE), ("most", 100), ("remembers", True), ("straight", True)]


def given(*names):
    return [(name, NONE) for name in names]


FUNCTIONS = {
    "words": {"words": given("text"), "is_told": given("word"), "is_name": given("word")},
    "building": {"term_of": given("plain"), "program_of": given("plain")},
    "reading": {"read": given("text")},
    "showing": {"shown": given("program"), "shown_term": given("term")},
    "names": {"need_names": given("program")},
    "kinds": {"fits": given("hall", "one", "other"), "nearest": given("hall", "one", "other")},
    "checking": {"kinds_of": given("program")},
    "numbers": {"two_told": given("sign", "a", "b")},
    "walking": {"walked": given("program", "numbers") + [("most", 100)]},
    "making": {"compiled": given("program")},
    "tables": {"tables": given("program"), "word_names": given("program")},
    "frames": {"entered": given("block", "number", "values"), "own_done": given("row", "frame", "things")},
    "straight": {"straightened": given("program", "blocks"), "meant": given("program", "kind", "word")},
    "running": {"checked": given("text"), "told_kind": given("text"), "answer": RUN, "looked": RUN,
                "plain_answer": given("text", "numbers") + [("most", 100)]},
}
CLASSES = {
    "terms": {"Term": {"plain": [], "parts": [], "depth": [], "size": []}, "Program": {"plain": [], "bodies": []}},
    "houses": {"Hall": {"__init__": given("program"), "houses": [], "elders": given("house"),
                        "younger": given("house"), "fields": given("house"), "place": given("house", "field"),
                        "found": given("house", "word"), "head": given("house", "word")}},
    "places": {"Places": {"__init__": [], "asked": given("site", "house"), "put": given("site", "house", "block"),
                          "told": given("site")}},
    "machine": {"Machine": {"__init__": given("blocks", "tables", "numbers") + [("most", 100), ("remembers", True)],
                            "step": [], "frames": [], "things": [], "answer": [], "calls": [], "looks": [], "hits": [],
                            "rows_done": []}},
}
ERRORS = ("HouseError", "BadWords", "BadForm", "BadName", "BadKind", "BadInput")


def arguments(function):
    return [(one.name, one.default) for one in inspect.signature(function).parameters.values() if one.name != "self"]


class Interface(unittest.TestCase):
    def test_functions(self):
        for module, functions in FUNCTIONS.items():
            for name, due in functions.items():
                found = getattr(importlib.import_module("elderhouse." + module), name)
                self.assertEqual(arguments(found), due, (module, name))

    def test_classes(self):
        for module, classes in CLASSES.items():
            for name, methods in classes.items():
                found = getattr(importlib.import_module("elderhouse." + module), name)
                for method, due in methods.items():
                    self.assertEqual(arguments(getattr(found, method)), due, (name, method))

    def test_errors_and_values(self):
        errors = importlib.import_module("elderhouse.errors")
        for name in ERRORS:
            self.assertTrue(issubclass(getattr(errors, name), ValueError))
        self.assertEqual(importlib.import_module("elderhouse.numbers").GREATEST, 10 ** 15)

    def test_parts_that_hold_what_others_share(self):
        for module in ("guests", "waits"):
            importlib.import_module("elderhouse." + module)


if __name__ == "__main__":
    unittest.main()
