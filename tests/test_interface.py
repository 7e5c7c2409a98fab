"""The names, arguments and places of the interface."""

import importlib
import inspect
import unittest

INTERFACE = {
    "steps": ["beginning(rules)", "is_standing(rules, shapes, value)", "is_state(rules, shapes, value)",
              "is_row(rules, shapes, value)", "most_left(rules, state)", "arrivals(rules, shapes, standing)",
              "stepped(rules, standing, state)", "covers(one, other)"],
    "verdicts": ["verdict(rules, shapes)", "is_rows(rules, shapes, value)", "is_weaving(rules, shapes, value)"],
    "least": ["least_weaving(rules, shapes)", "fewest_hands(rules, shapes)", "shortest(rules, shapes, hands)"],
    "costs": ["visited(rules, standing, visit, price)", "never_dearer(one, other, shapes, price, amount)",
              "is_heights(one, other, shapes, price, amount, value)", "greatest_lead(one, other, shapes, price)",
              "is_dearer(one, other, shapes, price, amount, value)"],
    "spare": ["spare(rules, shapes)", "swappable(rules, shapes)", "trimmed(rules, shapes, price)"],
    "meetings": ["meets(rules, shapes, states)", "is_meeting(rules, shapes, states, value)",
                 "is_apart(rules, shapes, states, value)"],
    "programs": ["is_program(value)", "is_value(value)", "sites_of(program, rules)",
                 "run(program, inputs, *, most=1000)"],
    "showing": ["shown(rules, shapes, weaving)", "window_of(machine, site)"],
    "texts": ["rules_text(rules)", "weaving_text(events)", "read_rules(text)", "read_weaving(text)"],
}
CLASSES = {
    ("rules", "Rules"): ["__init__(self, pattern, courses, *, closed=False)", "places(self)", "__len__(self)",
                         "words(self, cell)", "without(self, place)", "exchanged(self, place)", "plain(pattern)",
                         "careful()", "hasty()"],
    ("sites", "Site"): ["__init__(self, rules, shapes)", "come(self, hand, cell, shape)", "move(self, hand)",
                        "play(self, events)", "events(self)", "undo(self, many)", "__len__(self)", "fork(self)"],
    ("machines", "Machine"): ["__init__(self, program, placements, inputs)", "move(self, hand)", "play(self, hands)",
                              "diary(self, hand)", "told(self, hand)", "end(self, hand)", "at(self, hand)",
                              "stand(self, site)", "moves(self)", "__len__(self)", "undo(self, many)", "fork(self)",
                              "is_right(self)"],
}
OPERATORS = {("rules", "Rules"): ["__getitem__", "__contains__", "__eq__"], ("sites", "Site"): ["__eq__"],
             ("machines", "Machine"): ["__eq__"]}
PROPERTIES = {("rules", "Rules"): ["pattern", "closed", "courses"],
              ("sites", "Site"): ["rules", "shapes", "standing", "hands", "wrong"]}
ERRORS = {"value": ["BadPattern", "BadCourses", "NoPlace", "BadShapes", "BadHand", "BadCell", "BadShape", "BadState",
                    "NotRight", "NotWrong", "OtherPattern", "BadProgram", "NoSite"],
          "place": ["BadCourse"], "hand": ["Inside", "Outside", "GoneWrong", "Ended"],
          "number": ["BadEvent", "BadPlacement", "BadInputs"], "many": ["TooFar"], "line": ["BadText"]}


def module_of(name):
    """A module of the package."""
    return importlib.import_module(f"warmsteps.{name}")


class InterfaceTest(unittest.TestCase):
    def test_functions(self):
        for name, signatures in INTERFACE.items():
            for told in signatures:
                word = told.split("(")[0]
                function = getattr(module_of(name), word)
                self.assertEqual(word + str(inspect.signature(function)), told)
                self.assertEqual(function.__module__, f"warmsteps.{name}")

    def test_classes(self):
        for (name, word), signatures in CLASSES.items():
            known = getattr(module_of(name), word)
            self.assertEqual(known.__module__, f"warmsteps.{name}")
            for told in signatures:
                method = told.split("(")[0]
                own = known.__dict__[method]
                own = own.__func__ if isinstance(own, staticmethod) else own
                self.assertEqual(method + str(inspect.signature(own)), told)
            for method in OPERATORS[(name, word)]:
                self.assertIn(method, known.__dict__)
            for told in PROPERTIES.get((name, word), []):
                self.assertIsInstance(known.__dict__[told], property)

    def test_errors(self):
        errors = module_of("errors")
        self.assertEqual(errors.WarmError.__bases__, (ValueError,))
        for argument, names in ERRORS.items():
            for name in names:
                known = getattr(errors, name)
                self.assertEqual(known.__bases__, (errors.WarmError,))
                value = [name]
                for error in (known(value), known(**{argument: value})):
                    self.assertIs(getattr(error, argument), value)


if __name__ == "__main__":
    unittest.main()
