import unittest

from wayorring.errors import BadPlace, WayError
from wayorring.places import read_place, write_place

A = ("var", "a", 0)
ITEM = ("item", "xs", ("num", 1), 2)

WRITTEN = (
    ((("row", 7),), "row 7"),
    ((("yes", 3),), "yes 3"),
    ((("no", 3),), "no 3"),
    ((("turn", 9, 2),), "turn 9 2"),
    ((("fault", 5, "index"),), "fault 5 index"),
    ((("fault", 5, "range"),), "fault 5 range"),
    ((("fault", 5, "turns"),), "fault 5 turns"),
    ((("fault", 5, "check"),), "fault 5 check"),
    ((("fault", 5, "abcdefghijkl"),), "fault 5 abcdefghijkl"),
    ((("when", 6, "<", A, ITEM),), "when 6: a < xs[1] + 2"),
    ((("when", 6, "<=", ("num", -4), ("num", 0)),), "when 6: -4 <= 0"),
    ((("when", 6, ">", ("var", "a", -1), ("var", "b", 1)),), "when 6: a - 1 > b + 1"),
    ((("when", 6, ">=", ("item", "xs", ("var", "i", -1), 0), A),), "when 6: xs[i - 1] >= a"),
    ((("when", 6, "==", A, A),), "when 6: a == a"),
    ((("when", 6, "!=", A, ("num", 9999999999)),), "when 6: a != 9999999999"),
    ((("row", 0),), "row 0"),
    ((("turn", 0, 0),), "turn 0 0"),
    ((("row", 9999999999),), "row 9999999999"),
    ((("row", 2), ("row", 2)), "row 2 then row 2"),
    ((("turn", 9, 2), ("fault", 5, "odd")), "turn 9 2 then fault 5 odd"),
    ((("when", 6, "<", A, ITEM), ("no", 3)), "when 6: a < xs[1] + 2 then no 3"),
    ((("yes", 3), ("when", 6, "==", A, A), ("when", 7, "<", A, ITEM)),
    "yes 3 then when 6: a == a then when 7: a < xs[1] + 2"),
    ((("row", 1), ("row", 2), ("row", 3)), "row 1 then row 2 then row 3"),
)


class ReadAndWriteTest(unittest.TestCase):

    def test_written_and_read(self):
        for place, text in WRITTEN:
            self.assertEqual(write_place(place), text)
            self.assertEqual(read_place(text), place)
            self.assertIsInstance(read_place(text), tuple)

    def test_spaces(self):
        for text in (
            "row 7 then turn 9 2 then when 6: a < xs[1] + 2", "  row 7 then turn 9 2 then when 6: a < xs[1] + 2  ",
            "row   7  then   turn  9   2 then when   6  :   a   <   xs  [  1  ]   +   2",
            " row7then turn9 2then when6:a<xs[1]+2",
        ):
            self.assertEqual(read_place(text), (("row", 7), ("turn", 9, 2), ("when", 6, "<", A, ITEM)), text)
        self.assertEqual(read_place("fault5index"), (("fault", 5, "index"),))
        self.assertEqual(read_place("yes3then no3"), (("yes", 3), ("no", 3)))

    def test_rows_and_numbers_of_any_size(self):
        for number in (0, 1, 60, 61, 999999, 1000000, 9999999999):
            self.assertEqual(read_place(f"row {number}"), (("row", number),))
            self.assertEqual(read_place(f"turn {number} {number}"), (("turn", number, number),))
            self.assertEqual(read_place(f"fault {number} zzz"), (("fault", number, "zzz"),))
            place = (("when", number, "<", ("num", -number), ("var", "a", number)),)
            plus = f" + {number}" if number else ""
            self.assertEqual(read_place(f"when {number}: -{number} < a{plus}"), place)

    def test_a_minus_0(self):
        self.assertEqual(read_place("when 3: -0 < a - 0"), (("when", 3, "<", ("num", 0), A),))


class RefusedTest(unittest.TestCase):

    def check_bad(self, *texts):
        for text in texts:
            for _ in range(2):
                with self.assertRaises(BadPlace, msg=text):
                    read_place(text)
            with self.assertRaises(WayError, msg=text):
                read_place(text)

    def test_no_words(self):
        self.check_bad("", " ", "    ")

    def test_a_missing_word(self):
        self.check_bad(
            "row", "7", "yes", "no", "turn", "turn 9", "fault", "fault 5", "fault index", "when", "when 6", "when 6:",
            "when 6: a", "when 6: a <", "when 6: < a", "when 6 a < 1", "when: a < 1", "when 6: a 1", "then",
            "row 1 then",
            "then row 1", "row 1 then then row 2", "row 1 row 2", "row 1, row 2", "row 1 then row", "row 1 then 2",
            "when 6: xs[1 < 2", "when 6: xs1] < 2", "when 6: a < b +",
        )

    def test_a_doubled_word(self):
        self.check_bad(
            "row row 7", "row 7 7", "yes 3 3", "yes yes 3", "no 3 no 3", "turn 9 2 2", "turn turn 9 2",
            "fault 5 index index",
            "fault 5 5 index", "fault fault 5 index", "when 6 6: a < 1", "when 6:: a < 1", "when when 6: a < 1",
            "when 6: a < < 1", "when 6, a < 1", "when 6 = a < 1", "when 6 b a < 1", "when 6 : : a < 1",
            "when 6: a a < 1", "when 6: a < 1 1", "when 6: a < 1 < 2", "row 1 then then row 2",
        )

    def test_four_atoms(self):
        self.check_bad(
            "row 1 then row 2 then row 3 then row 4", "row 1 then row 1 then row 1 then row 1 then row 1",
            "row 1 then row 2 then row 3 then", "then row 1 then row 2 then row 3",
            "when 6: a < 1 then when 6: a < 1 then when 6: a < 1 then when 6: a < 1",
        )

    def test_a_leading_zero_and_eleven_digits(self):
        for number in ("07", "00", "01", "00000000000", "10000000000", "12345678901"):
            self.check_bad(
                f"row {number}", f"yes {number}", f"no {number}", f"turn {number} 2", f"turn 9 {number}",
                f"fault {number} index", f"when {number}: a < 1", f"when 6: a < {number}", f"when 6: a + {number} < 1",
                f"when 6: xs[{number}] < 1", f"when 6: -{number} < 1",
            )

    def test_a_negative_number(self):
        self.check_bad("row -1", "yes - 3", "turn 9 -2", "turn -9 2", "fault -5 index", "when -6: a < 1", "row +1")

    def test_reserved_words_and_long_ones_as_kinds(self):
        for word in (
            "input", "from", "to", "list", "def", "let", "if", "else", "end", "while", "at", "most", "refuse", "answer",
            "return", "skip", "and", "or", "not", "row", "yes", "no", "turn", "fault", "when", "then",
        ):
            self.check_bad(f"fault 5 {word}")
        self.check_bad("fault 5 abcdefghijklm", "fault 5 12", "fault 5 a1", "fault 5 Index", "fault 5 a b")

    def test_other_words_as_atoms(self):
        self.check_bad(
            "end", "end 3", "check 3", "rows 7", "Row 7", "ROW 7", "at 3", "index 5 fault", "7 row", "yes 3 index",
            "row 7 index",
            "turn 9 index", "if 3", "while 3 2", "fault 5 2", "x 3", "r 3",
        )

    def test_what_is_no_plain_comparison(self):
        self.check_bad(
            "when 6: (a < 1)", "when 6: ((a < 1))", "when 6: (a) < 1", "when 6: a < (1)", "when 6: not a < 1",
            "when 6: a < 1 and b < 1", "when 6: a < 1 or b < 1", "when 6: not (a < 1)", "when 6: xs[xs[1]] < 1",
            "when 6: a = 1", "when 6: a", "when 6: 1", "when 6: a + b < 1", "when 6: a + -1 < 1",
            "when 6: a + 1 + 1 < 2",
            "when 6: f(1) < 2", "when 6: xs[(1)] < 2", "when 6: -a < 1", "when 6: row < 1", "when 6: check < 1",
            "when 6: abcdefghijklm < 1", "when 6: xs[] < 1", "when 6: xs[-] < 1",
        )

    def test_a_character_that_belongs_to_no_word(self):
        for character in "\t\n\r;.*/'\"{}_AZ!?#&\\\x00\x0b\x0c\u00a0\u00e9\u0661\u3000":
            self.check_bad(
                f"row{character}7", f"row 7{character}", f"{character}row 7", f"row 7 {character} then row 8",
                f"fault 5 a{character}", f"when 6: a < 1{character}", character,
            )
        self.check_bad("row 7\nrow 8", "row 7\n", "row 7 then\nrow 8", "row\t7")


if __name__ == "__main__":
    unittest.main()
