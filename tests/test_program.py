import unittest

from wayorring.program import Program, statements_of

FIVE = ("num", 5)
SMALL = ("cmp", "<", ("var", "a", 0), FIVE)
INPUTS = (("a", 0, 0, 9), ("xs", 3, -5, 7), ("b", 0, -2, -1), ("ys", 1, 4, 4))
FUNCTIONS = (
    (5, "one", ("x",), (("if", 6, SMALL, (("return", 7, FIVE),), ()), ("skip", 9))),
    (11, "two", (), (("while", 12, SMALL, 2, (("skip", 13),)), ("return", 15, FIVE))),
)
BODY = (
    ("let", 17, "c", None, None, FIVE),
    (
        "if", 18, SMALL,
        (("while", 19, SMALL, 3, (("skip", 20), ("if", 21, SMALL, (), (("skip", 23),)))), ("skip", 26)),
        (("check", 28, SMALL), ("if", 29, SMALL, (), ())),
    ),
    ("answer", 32, FIVE),
)
KINDS = [
    ("if", 6), ("return", 7), ("skip", 9), ("while", 12), ("skip", 13), ("return", 15), ("let", 17), ("if", 18),
    ("while", 19), ("skip", 20), ("if", 21), ("skip", 23), ("skip", 26), ("check", 28), ("if", 29), ("answer", 32),
]


class ProgramTest(unittest.TestCase):

    def test_attributes(self):
        program = Program(INPUTS, FUNCTIONS, BODY)
        self.assertEqual(program.inputs, INPUTS)
        self.assertEqual(program.functions, FUNCTIONS)
        self.assertEqual(program.body, BODY)

    def test_arguments_by_name(self):
        program = Program(inputs=INPUTS, functions=FUNCTIONS, body=BODY)
        self.assertEqual((program.inputs, program.functions, program.body), (INPUTS, FUNCTIONS, BODY))

    def test_methods_stand_in_the_class_itself(self):
        self.assertIn("unknowns", vars(Program))
        self.assertIn("same", vars(Program))
        self.assertIsInstance(vars(Program)["unknowns"], property)

    def test_unknowns(self):
        program = Program(INPUTS, FUNCTIONS, BODY)
        self.assertEqual(program.unknowns, [(0, 9), (-5, 7), (-5, 7), (-5, 7), (-2, -1), (4, 4)])
        self.assertEqual(Program((("a", 0, 3, 4),), (), BODY).unknowns, [(3, 4)])
        self.assertEqual(Program((("xs", 2, 3, 4),), (), BODY).unknowns, [(3, 4), (3, 4)])

    def test_unknowns_belong_to_the_caller(self):
        program = Program(INPUTS, FUNCTIONS, BODY)
        program.unknowns.append((1, 1))
        taken = program.unknowns
        taken.clear()
        self.assertEqual(program.unknowns, [(0, 9), (-5, 7), (-5, 7), (-5, 7), (-2, -1), (4, 4)])

    def test_same(self):
        program = Program(INPUTS, FUNCTIONS, BODY)
        self.assertIs(program.same(program), True)
        self.assertIs(program.same(Program(tuple(list(INPUTS)), tuple(list(FUNCTIONS)), tuple(list(BODY)))), True)

    def test_same_with_each_attribute_unlike(self):
        program = Program(INPUTS, FUNCTIONS, BODY)
        unlike = [
            Program(INPUTS[:3], FUNCTIONS, BODY),
            Program(INPUTS, FUNCTIONS[:1], BODY),
            Program(INPUTS, FUNCTIONS, BODY[:2]),
            Program((("b", 0, 0, 9),) + INPUTS[1:], FUNCTIONS, BODY),
            Program(INPUTS, (), BODY),
            Program(INPUTS, FUNCTIONS, BODY[:2] + (("answer", 33, FIVE),)),
        ]
        for other in unlike:
            self.assertIs(program.same(other), False)
            self.assertIs(other.same(program), False)


class StatementsOfTest(unittest.TestCase):

    def test_all_statements_by_rows(self):
        found = statements_of(Program(INPUTS, FUNCTIONS, BODY))
        self.assertIsInstance(found, list)
        self.assertEqual([statement[:2] for statement in found], KINDS)
        self.assertEqual(found[0], FUNCTIONS[0][3][0])
        self.assertEqual(found[7], BODY[1])
        self.assertEqual(found[15], BODY[2])

    def test_without_functions(self):
        self.assertEqual(statements_of(Program(INPUTS, (), (("skip", 5),))), [("skip", 5)])

    def test_the_list_belongs_to_the_caller(self):
        program = Program(INPUTS, FUNCTIONS, BODY)
        found = statements_of(program)
        found.pop()
        found[0] = None
        found.append(("skip", 99))
        self.assertEqual([statement[:2] for statement in statements_of(program)], KINDS)
        self.assertEqual((program.inputs, program.functions, program.body), (INPUTS, FUNCTIONS, BODY))


if __name__ == "__main__":
    unittest.main()
