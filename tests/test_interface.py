import importlib
import inspect
import unittest

INTERFACE = {
    "errors": (
        ("WayError", None), ("BadLine", None), ("BadText", None), ("BadProgram", None), ("BadPaper", None),
        ("TooLong", None), ("TooWide", None), ("BadPlace", None), ("BadInput", None), ("BadPair", None), ("BadEdit",
        None),
    ),
    "words": (("split_row", ["text"]), ("is_name", ["word"]), ("is_number", ["word"])),
    "expressions": (
        ("read_expression", ["text"]), ("write_expression", ["expression"]), ("read_condition", ["text"]),
        ("write_condition", ["condition"]),
    ),
    "program": (("Program", ["inputs", "functions", "body"]), ("statements_of", ["program"])),
    "reader": (("read_program", ["text"]),),
    "writer": (("write_program", ["program"]), ("write_statement", ["statement"])),
    "checks": (("weight_of", ["statements", "program"]), ("check_program", ["program"])),
    "values": (("value_of", ["expression", "variables"]), ("truth_of", ["condition", "variables"])),
}


class InterfaceTest(unittest.TestCase):

    def test_names_and_arguments(self):
        for file, told in INTERFACE.items():
            module = importlib.import_module("wayorring." + file)
            for name, arguments in told:
                made = getattr(module, name)
                self.assertEqual(made.__module__, "wayorring." + file, name)
                if arguments is not None:
                    self.assertEqual(list(inspect.signature(made).parameters), arguments, name)


if __name__ == "__main__":
    unittest.main()
