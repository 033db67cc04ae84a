import unittest

from wayorring.words import is_name, is_number, split_row

SIGNS = ["<=", ">=", "==", "!=", "<", ">", "=", "+", "-", "(", ")", "[", "]", ",", ":"]
RESERVED = (
    "input from to list def let if else end while at most check refuse answer return skip and or not row yes no turn"
    " fault when then"
).split()


class SplitRowTest(unittest.TestCase):

    def test_words_from_left_to_right(self):
        self.assertEqual(split_row("if x < top"), ["if", "x", "<", "top"])
        self.assertEqual(
            split_row("while xs[i] >= 10 at most 3"), ["while", "xs", "[", "i", "]", ">=", "10", "at", "most", "3"]
        )
        self.assertEqual(split_row("def later(x, top)"), ["def", "later", "(", "x", ",", "top", ")"])

    def test_each_sign_is_a_word(self):
        for sign in SIGNS:
            self.assertEqual(split_row(sign), [sign])
        self.assertEqual(split_row(" ".join(SIGNS)), SIGNS)

    def test_a_sign_of_two_characters_is_preferred(self):
        self.assertEqual(split_row("a<=b>=c==d!=e"), ["a", "<=", "b", ">=", "c", "==", "d", "!=", "e"])
        self.assertEqual(split_row("==="), ["==", "="])
        self.assertEqual(split_row("===="), ["==", "=="])
        self.assertEqual(split_row("=<="), ["=", "<="])
        self.assertEqual(split_row("<=="), ["<=", "="])
        self.assertEqual(split_row("<>="), ["<", ">="])
        self.assertEqual(split_row("=!="), ["=", "!="])
        self.assertEqual(split_row("!=="), ["!=", "="])
        self.assertEqual(split_row("<<"), ["<", "<"])
        self.assertEqual(split_row("=>"), ["=", ">"])

    def test_spaces_part_the_characters_of_a_sign(self):
        self.assertEqual(split_row("< ="), ["<", "="])
        self.assertEqual(split_row("= ="), ["=", "="])

    def test_letters_and_digits_are_parted_without_spaces(self):
        self.assertEqual(split_row("a1b"), ["a", "1", "b"])
        self.assertEqual(split_row("12ab34"), ["12", "ab", "34"])
        self.assertEqual(split_row("x+1"), ["x", "+", "1"])
        self.assertEqual(split_row("a-5"), ["a", "-", "5"])

    def test_runs_are_longest(self):
        self.assertEqual(split_row("abcdefghijklmnopqrstuvwxyz"), ["abcdefghijklmnopqrstuvwxyz"])
        self.assertEqual(split_row("00012345678901234567890"), ["00012345678901234567890"])
        self.assertEqual(split_row("iffy notx"), ["iffy", "notx"])

    def test_spaces_part_runs(self):
        self.assertEqual(split_row("a b"), ["a", "b"])
        self.assertEqual(split_row("1 2"), ["1", "2"])

    def test_any_number_of_spaces(self):
        self.assertEqual(split_row("   let   a    =     5   "), ["let", "a", "=", "5"])
        self.assertEqual(split_row(" a"), ["a"])
        self.assertEqual(split_row("a "), ["a"])
        self.assertEqual(split_row("let a=5"), ["let", "a", "=", "5"])

    def test_a_row_without_words(self):
        self.assertEqual(split_row(""), [])
        self.assertEqual(split_row(" "), [])
        self.assertEqual(split_row("      "), [])

    def test_characters_that_belong_to_no_word(self):
        for code in range(256):
            character = chr(code)
            if character in " <>=+-()[],:" or "a" <= character <= "z" or "0" <= character <= "9":
                continue
            for text in (character, "a " + character, character + " a", "let a" + character + "b"):
                self.assertIsNone(split_row(text), repr(text))

    def test_named_characters_that_belong_to_no_word(self):
        for character in ("!", "%", "A", "Z", "_", "\t", "\n", "\r", ".", ";", "#", "*", "/", "{", "\x00"):
            self.assertIsNone(split_row(character), repr(character))
            self.assertIsNone(split_row("a " + character + " b"), repr(character))

    def test_an_exclamation_mark_alone(self):
        for text in ("!", "a ! = b", "!!=", "!a", "a!", "!<"):
            self.assertIsNone(split_row(text), text)

    def test_letters_and_digits_beyond_ascii(self):
        for character in ("\u00e9", "\u00df", "\u0661", "\u00b2", "\u0430", "\u2003", "\u00a0", "\uff11", "\U0001d41a"):
            self.assertIsNone(split_row(character), repr(character))
            self.assertIsNone(split_row("a" + character), repr(character))

    def test_the_result_belongs_to_the_caller(self):
        words = split_row("let a = 5")
        words.append("x")
        words[0] = "list"
        self.assertEqual(split_row("let a = 5"), ["let", "a", "=", "5"])
        nothing = split_row("")
        nothing.append("x")
        self.assertEqual(split_row(""), [])


class IsNameTest(unittest.TestCase):

    def test_lengths(self):
        self.assertIs(is_name(""), False)
        self.assertIs(is_name("a"), True)
        self.assertIs(is_name("abcdefghijkl"), True)
        self.assertIs(is_name("abcdefghijklm"), False)

    def test_reserved_words(self):
        self.assertEqual(len(RESERVED), 27)
        for word in RESERVED:
            self.assertIs(is_name(word), False, word)
            self.assertIs(is_name(word + "x"), True, word)

    def test_words_that_are_not_reserved(self):
        for word in ("range", "index", "turns", "place", "text", "a", "z", "inputs", "i", "apart", "found", "none"):
            self.assertIs(is_name(word), True, word)

    def test_other_texts(self):
        texts = ("A", "Ab", "aB", "a1", "1a", "1", "a b", " a", "a ", "a_b", "_", "=", "a\n", "\u00e9", "a\u0301", "-")
        for text in texts:
            self.assertIs(is_name(text), False, repr(text))


class IsNumberTest(unittest.TestCase):

    def test_lengths(self):
        self.assertIs(is_number(""), False)
        self.assertIs(is_number("7"), True)
        self.assertIs(is_number("1234567890"), True)
        self.assertIs(is_number("9999999999"), True)
        self.assertIs(is_number("12345678901"), False)

    def test_zeros(self):
        self.assertIs(is_number("0"), True)
        self.assertIs(is_number("00"), False)
        self.assertIs(is_number("01"), False)
        self.assertIs(is_number("10"), True)
        self.assertIs(is_number("100"), True)

    def test_other_texts(self):
        texts = ("-1", "+1", "a", "1a", "a1", " 1", "1 ", "1 2", "1.5", "1_0", "1\n", "\u0661", "\u00b2", "\uff11", "-")
        for text in texts:
            self.assertIs(is_number(text), False, repr(text))


if __name__ == "__main__":
    unittest.main()
