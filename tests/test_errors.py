import unittest

from wayorring import errors


class ErrorsTest(unittest.TestCase):

    def test_way_error_is_a_value_error(self):
        self.assertEqual(errors.WayError.__bases__, (ValueError,))

    def test_bad_line_stands_directly_under_way_error(self):
        self.assertEqual(errors.BadLine.__bases__, (errors.WayError,))

    def test_line_errors_stand_under_bad_line(self):
        for made in (errors.BadText, errors.BadProgram, errors.BadPaper):
            self.assertEqual(made.__bases__, (errors.BadLine,), made)

    def test_other_errors_stand_directly_under_way_error(self):
        others = (errors.TooLong, errors.TooWide, errors.BadPlace, errors.BadInput, errors.BadPair, errors.BadEdit)
        for made in others:
            self.assertEqual(made.__bases__, (errors.WayError,), made)

    def test_all_are_defined_in_this_file(self):
        names = (
            "WayError", "BadLine", "BadText", "BadProgram", "BadPaper", "TooLong", "TooWide", "BadPlace", "BadInput",
            "BadPair", "BadEdit",
        )
        for name in names:
            self.assertEqual(getattr(errors, name).__module__, "wayorring.errors")
            self.assertEqual(getattr(errors, name).__name__, name)

    def test_line_errors_keep_the_row(self):
        for made in (errors.BadLine, errors.BadText, errors.BadProgram, errors.BadPaper):
            self.assertEqual(made(3).row, 3, made)
            with self.assertRaises(errors.WayError) as caught:
                raise made(61)
            self.assertEqual(caught.exception.row, 61)

    def test_other_errors_are_raised_and_caught(self):
        for made in (errors.TooLong, errors.TooWide, errors.BadPlace, errors.BadInput, errors.BadPair, errors.BadEdit):
            with self.assertRaises(errors.WayError):
                raise made("why")
            with self.assertRaises(ValueError):
                raise made()


if __name__ == "__main__":
    unittest.main()
