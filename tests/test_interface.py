import importlib
import inspect
import unittest

from wayorring.apart import PairWalk
from wayorring.book import Book
from wayorring.changes import list_changes
from wayorring.formrun import FormRun
from wayorring.meaning import run_program
from wayorring.papers import Paper
from wayorring.program import Program
from wayorring.reader import read_program
from wayorring.search import find_least
from wayorring.survey import survey_program
from wayorring.systems import System
from wayorring.walks import PlaceWalk
from wayorring.watch import Watch

INTERFACE = {
    "errors": (
        ("WayError", None), ("BadLine", None), ("BadText", None), ("BadProgram", None), ("BadPaper", None),
        ("TooLong", None), ("TooWide", None), ("BadPlace", None), ("BadInput", None), ("BadPair", None), ("BadEdit",
        None),
    ),
    "words": (("split_row", ["text"]), ("is_name", ["word"]), ("is_number", ["word"])),
    "expressions": (
        ("read_expression", ["text"]), ("write_expression", ["expression"]), ("read_condition", ["text"]),
        ("write_condition", ["condition"]),
    ),
    "program": (("Program", ["inputs", "functions", "body"]), ("statements_of", ["program"])),
    "reader": (("read_program", ["text"]),),
    "writer": (("write_program", ["program"]), ("write_statement", ["statement"])),
    "checks": (("weight_of", ["statements", "program"]), ("check_program", ["program"])),
    "values": (("value_of", ["expression", "variables"]), ("truth_of", ["condition", "variables"])),
    "watch": (("Watch", ["place"]),),
    "meaning": (("Run", None), ("run_program", ["program", "inputs", "place"])),
    "chains": (
        ("chain_sum", ["differences", "numbers"]), ("is_ring", ["differences", "numbers"]),
        ("floor_value", ["differences", "numbers", "unknown"]), ("keeps", ["differences", "values"]),
    ),
    "systems": (("System", ["many"]),),
    "ways": (
        ("compare_ways", ["sign", "left", "right"]), ("index_ways", ["form", "size"]),
        ("range_ways", ["form", "lo", "hi"]),
        ("form_value", ["form", "inputs"]),
    ),
    "formrun": (("FormRun", ["program", "inputs"]),),
    "places": (
        ("read_place", ["text"]), ("write_place", ["place"]), ("check_place", ["program", "place"]),
        ("standing", ["program"]),
    ),
    "walks": (("PlaceWalk", ["program", "place"]),),
    "papers": (
        ("Paper", ["text", "subject", "verdict", "tokens"]), ("write_paper", ["paper"]), ("read_paper", ["text"]),
    ),
    "search": (("explore", ["walk"]), ("find_least", ["program", "place"])),
    "checker": (("follow", ["walk", "tokens"]), ("check_paper", ["program", "place", "paper"])),
    "survey": (
        ("Way", None), ("survey_program", ["program"]), ("way_of", ["ways", "inputs"]), ("reachable", ["ways"]),
    ),
    "suite": (("make_suite", ["program"]), ("unreachable", ["program"])),
    "shortest": (
        ("greatest_sets", ["ways"]), ("shortest_suite", ["program"]), ("check_shortest", ["sets", "many", "paper"]),
    ),
    "changes": (("Change", None), ("list_changes", ["program"])),
    "apart": (
        ("PairWalk", ["first", "second"]), ("tell_apart", ["first", "second"]),
        ("check_apart", ["first", "second", "paper"]), ("score_changes", ["program", "inputs"]),
        ("strong_suite", ["program"]),
    ),
    "book": (("Book", ["program"]),),
}
METHODS = {
    Program: (("same", ["other"]),),
    Watch: (("wanted", ["event"]), ("see", ["event", "truth"])),
    System: (("tie", ["difference"]), ("bound", ["u", "v"]), ("floors", []), ("least_values", []), ("twin", [])),
    FormRun: (("advance", []), ("take", ["number"]), ("twin", [])),
    PlaceWalk: (("advance", []), ("ways", []), ("take", ["number"]), ("twin", [])),
    Paper: (("same", ["other"]),),
    PairWalk: (("advance", []), ("ways", []), ("take", ["number"]), ("twin", [])),
    Book: (("ask", ["place"]), ("edit", ["row", "line"])),
}


class InterfaceTest(unittest.TestCase):

    def test_names_and_arguments(self):
        for file, told in INTERFACE.items():
            module = importlib.import_module("wayorring." + file)
            for name, arguments in told:
                made = getattr(module, name)
                self.assertEqual(made.__module__, "wayorring." + file, name)
                if arguments is not None:
                    self.assertEqual(list(inspect.signature(made).parameters), arguments, name)

    def test_methods_stand_in_the_class_itself(self):
        for made, told in METHODS.items():
            for name, arguments in told:
                self.assertIn(name, vars(made))
                self.assertEqual(list(inspect.signature(vars(made)[name]).parameters), ["self"] + arguments, name)

    def test_arguments_that_are_passed_by_name(self):
        for function, name, default in ((run_program, "place", ()), (FormRun, "inputs", None)):
            parameter = inspect.signature(function).parameters[name]
            self.assertEqual((parameter.kind, parameter.default), (parameter.KEYWORD_ONLY, default))

    def test_attributes_are_set_when_the_object_is_made(self):
        program = read_program("input a from 0 to 9\nskip")
        for made, names in (
            (Watch(()), ["progress"]), (run_program(program, [1]), ["outcome", "events", "met"]),
            (System(1), ["differences"]),
            (FormRun(program), ["events", "outcome", "question", "variables"]),
            (PlaceWalk(program, ()), ["many", "differences", "run"]),
            (PairWalk(program, program), ["many", "differences", "run"]),
            (find_least(program, (("row", 2),)), ["text", "subject", "verdict", "tokens"]),
            (survey_program(program)[0], ["differences", "least", "events", "outcome"]),
            (list_changes(read_program("input a from 0 to 9\nanswer a"))[0], ["row", "kind", "program"]),
            (Book(program), ["program"]),
        ):
            for name in names:
                self.assertIn(name, vars(made))

    def test_properties_stand_in_the_class_itself(self):
        self.assertIsInstance(vars(Program)["unknowns"], property)
        self.assertIsInstance(vars(Book)["searched"], property)


if __name__ == "__main__":
    unittest.main()
