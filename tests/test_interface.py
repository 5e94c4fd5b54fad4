"""What the interface names is there, by its name, with its arguments and what stands in their place when left out."""

import importlib
import inspect
import unittest

FUNCTIONS = {
    "figures": ("figures(number, wide=10)", "number_of(row, wide=10)", "joint(numbers, base)",
                "apart(number, base, many)"),
    "machines": ("is_machine(thing)", "room(machine, row, start=0)", "told(machine, row)", "sign_at(machine, number)",
                 "sign_down(machine, number)", "is_steady(machine)"),
    "leasts": ("leads(machine)", "parting(machine, one, other)", "least(machine)"),
    "walks": ("grown(walk, wide, most=200)",),
    "pieces": ("paired(one, other, rule, most=200)", "changed(machine, rule)", "widened(machine, base, many, at)",
               "some(machine, base, many, at, most=200)"),
    "turns": ("turned(machine, most=200)", "raised(machine, power)", "lowered(machine, base, most=200)",
              "grown_row(rules, signs, long)"),
    "firsts": ("first_number(machine, sign=1, start=0)", "fitting(machine, base, many, at, others)"),
    "counts": ("ways(machine, long)", "count_below(machine, below, sign=1)"),
    "ends": ("last_number(machine, sign=1)", "endless(machine, sign=1)"),
    "statements": ("free(statement)", "rows_of(statement)", "depth(statement)", "shown(statement)"),
    "reader": ("read(text)",),
    "makes": ("machine_of(statement, base=2, rows=None, most=200)",
              "differ(one, other, base=2, rows=None, most=200)"),
}
WALK = ("begin()", "step(place, figure)", "sign(place)")
CLASSES = {
    "walks": {"Walk()": WALK, "Reading(machine)": WALK, "Pairing(one, other, rule)": WALK,
              "Narrowing(walk, base, at)": WALK, "Choosing(machine, base, at)": WALK},
    "sums": {"Weighing(factors, goal, base)": WALK + ("weight(figure)",),
             "Meeting(factors, goal, base)": WALK + ("weight(figure)",),
             "Within(factors, goal, base)": WALK + ("weight(figure)",),
             "Looking(machine, factors, more, base)": WALK},
    "book": {"Book(base=2, most=200)": (
        "keep(name, machine)", "grow(name, rules, signs)", "drop(name)", "kept()", "sign(name, number)", "made(text)",
        "holds(text, numbers=None)", "least_of(text)", "witness(text, numbers=None)", "count_of(text, below)",
        "last_of(text)", "differ(one, other)")},
    "errors": {"TooGreat(most)": ()},
}
REFUSALS = ("NoFigures", "NoMachine", "NoPower", "TooWide", "TooGreat", "NoText", "NoRow", "NoName", "NoSome")


def found(module, told):
    """The thing that is told as name(arguments), and the words of its own arguments."""
    name, words = told.split("(", 1)
    return getattr(module, name), "(" + words


def without_self(function):
    signature = inspect.signature(function)
    return str(signature.replace(parameters=[part for name, part in signature.parameters.items() if name != "self"]))


class InterfaceTest(unittest.TestCase):
    def module(self, name):
        return importlib.import_module("figuretell." + name)

    def test_functions(self):
        for module, told in FUNCTIONS.items():
            for words in told:
                function, arguments = found(self.module(module), words)
                self.assertTrue(inspect.isfunction(function), words)
                self.assertEqual(arguments, str(inspect.signature(function)), words)

    def test_classes_and_their_methods(self):
        for module, classes in CLASSES.items():
            for words, methods in classes.items():
                kind, arguments = found(self.module(module), words)
                self.assertTrue(inspect.isclass(kind), words)
                self.assertEqual(arguments, without_self(kind), words)
                for method in methods:
                    function, arguments = found(kind, method)
                    self.assertTrue(inspect.isfunction(function), method)
                    self.assertEqual(arguments, without_self(function), (words, method))

    def test_what_stands_under_what(self):
        errors = self.module("errors")
        self.assertEqual((ValueError,), errors.FigureError.__bases__)
        for name in REFUSALS:
            self.assertEqual((errors.FigureError,), getattr(errors, name).__bases__)
        walk = self.module("walks").Walk
        sums = self.module("sums")
        for kind in ("Reading", "Pairing", "Narrowing", "Choosing"):
            self.assertTrue(issubclass(getattr(self.module("walks"), kind), walk))
        for kind in ("Weighing", "Meeting", "Within", "Looking"):
            self.assertTrue(issubclass(getattr(sums, kind), walk))
        for kind in ("Meeting", "Within"):
            self.assertTrue(issubclass(getattr(sums, kind), sums.Weighing))


if __name__ == "__main__":
    unittest.main()
