import itertools
import unittest

from wayorring.chains import keeps
from wayorring.values import holds
from wayorring.ways import compare_ways, form_value, index_ways, range_ways

SIGNS = ("<", "<=", ">", ">=", "==", "!=")
GREAT = 10 ** 40


def table(i, a, j, b):
    """The table of the document, for left (i, a) and right (j, b)."""
    return {
        "<": [(True, ((i, j, b - a - 1),)), (False, ((j, i, a - b),))],
        "<=": [(True, ((i, j, b - a),)), (False, ((j, i, a - b - 1),))],
        ">": [(True, ((j, i, a - b - 1),)), (False, ((i, j, b - a),))],
        ">=": [(True, ((j, i, a - b),)), (False, ((i, j, b - a - 1),))],
        "==": [(True, ((i, j, b - a), (j, i, a - b))), (False, ((i, j, b - a - 1),)), (False, ((j, i, a - b - 1),))],
        "!=": [(True, ((i, j, b - a - 1),)), (True, ((j, i, a - b - 1),)), (False, ((i, j, b - a), (j, i, a - b)))],
    }


class Case(unittest.TestCase):

    def check_ways(self, found, expected):
        self.assertEqual(found, expected)
        self.assertIsInstance(found, list)
        for (result, differences), (known, _) in zip(found, expected):
            self.assertIs(type(result), type(known))
            self.assertIsInstance(differences, tuple)

    def one_way(self, ways, inputs):
        """The result of the one way whose differences the inputs keep."""
        kept = [result for result, differences in ways if keeps(differences, inputs)]
        self.assertEqual(len(kept), 1, (ways, inputs))
        return kept[0]


class CompareTest(Case):

    def test_by_hand(self):
        self.check_ways(compare_ways("<", (1, 2), (3, 9)), [(True, ((1, 3, 6),)), (False, ((3, 1, -7),))])
        self.check_ways(compare_ways("<=", (2, -1), (0, 4)), [(True, ((2, 0, 5),)), (False, ((0, 2, -6),))])
        self.check_ways(compare_ways(">", (0, 4), (2, 1)), [(True, ((2, 0, 2),)), (False, ((0, 2, -3),))])
        self.check_ways(compare_ways(">=", (2, 0), (1, 0)), [(True, ((1, 2, 0),)), (False, ((2, 1, -1),))])
        self.check_ways(
            compare_ways("==", (1, 0), (0, 5)),
            [(True, ((1, 0, 5), (0, 1, -5))), (False, ((1, 0, 4),)), (False, ((0, 1, -6),))],
        )
        self.check_ways(
            compare_ways("!=", (0, 5), (1, 2)),
            [(True, ((0, 1, -4),)), (True, ((1, 0, 2),)), (False, ((0, 1, -3), (1, 0, 3)))],
        )

    def test_the_table(self):
        for (i, j), a, b in itertools.product(
            ((1, 2), (2, 1), (0, 1), (3, 0), (5, 12)), (-7, 0, 3, GREAT), (-2, 0, 8, -GREAT - 5),
        ):
            for sign, ways in table(i, a, j, b).items():
                self.check_ways(compare_ways(sign, (i, a), (j, b)), ways)

    def test_one_unknown_or_the_ground_on_both_sides(self):
        for k, a, b in itertools.product((0, 1, 6), (-3, 0, 4, GREAT), (-3, 0, 4, GREAT)):
            for sign in SIGNS:
                truth = {"<": a < b, "<=": a <= b, ">": a > b, ">=": a >= b, "==": a == b, "!=": a != b}[sign]
                self.check_ways(compare_ways(sign, (k, a), (k, b)), [(truth, ())])

    def test_just_one_way_is_kept_and_it_is_right(self):
        for i, j in ((1, 2), (2, 1), (0, 1), (1, 0), (2, 2), (0, 0)):
            for a, b, sign in itertools.product((-2, 0, 1), (-1, 0, 2), SIGNS):
                ways = compare_ways(sign, (i, a), (j, b))
                for inputs in itertools.product(range(-3, 4), repeat=2):
                    left, right = form_value((i, a), inputs), form_value((j, b), inputs)
                    self.assertIs(self.one_way(ways, inputs), holds(sign, left, right))

    def test_the_list_belongs_to_the_caller(self):
        for right in ((2, 0), (1, 5), (0, 3)):
            before = compare_ways("==", (1, 0), right)
            compare_ways("==", (1, 0), right).clear()
            self.assertEqual(compare_ways("==", (1, 0), right), before)


class IndexTest(Case):

    def test_by_hand(self):
        self.check_ways(
            index_ways((2, 1), 3),
            [(-1, ((2, 0, -2),)), (0, ((2, 0, -1), (0, 2, 1))), (1, ((2, 0, 0), (0, 2, 0))),
                (2, ((2, 0, 1), (0, 2, -1))), (3, ((0, 2, -2),))],
        )
        self.check_ways(
            index_ways((1, 0), 1), [(-1, ((1, 0, -1),)), (0, ((1, 0, 0), (0, 1, 0))), (1, ((0, 1, -1),))])

    def test_each_size(self):
        for size, i, a in itertools.product(range(1, 7), (1, 4), (-5, 0, 2, GREAT, -GREAT)):
            expected = [(-1, ((i, 0, -1 - a),))]
            expected += [(k, ((i, 0, k - a), (0, i, a - k))) for k in range(size)]
            expected += [(size, ((0, i, a - size),))]
            self.check_ways(index_ways((i, a), size), expected)

    def test_the_ground(self):
        for size in (1, 6):
            for a, result in (
                (-GREAT, -1), (-2, -1), (-1, -1), (0, 0), (size - 1, size - 1), (size, size), (size + 1, size),
                (GREAT, size),
            ):
                self.check_ways(index_ways((0, a), size), [(result, ())])
        for a in range(6):
            self.check_ways(index_ways((0, a), 6), [(a, ())])

    def test_just_one_way_is_kept_and_it_is_right(self):
        for size, a in itertools.product(range(1, 7), (-3, 0, 2)):
            ways = index_ways((2, a), size)
            for value in range(-12, 13):
                self.assertEqual(self.one_way(ways, (7, value)), max(-1, min(size, value + a)))

    def test_the_list_belongs_to_the_caller(self):
        for form in ((1, 0), (0, 2)):
            before = index_ways(form, 3)
            index_ways(form, 3).append(None)
            self.assertEqual(index_ways(form, 3), before)


class RangeTest(Case):

    def test_by_hand(self):
        self.check_ways(
            range_ways((2, 3), -1, 5), [(-1, ((2, 0, -5),)), (0, ((0, 2, 4), (2, 0, 2))), (1, ((0, 2, -3),))])

    def test_the_table(self):
        for i, a, (lo, hi) in itertools.product(
            (1, 5), (-9, 0, 4, GREAT), ((0, 9), (-3, -1), (4, 4), (-GREAT, GREAT), (0, 0)),
        ):
            expected = [
                (-1, ((i, 0, lo - 1 - a),)), (0, ((0, i, a - lo), (i, 0, hi - a))), (1, ((0, i, a - hi - 1),)),
            ]
            self.check_ways(range_ways((i, a), lo, hi), expected)

    def test_the_ground(self):
        for lo, hi in ((-3, 5), (4, 4), (0, 1), (-GREAT, GREAT)):
            for a, result in ((lo - 1, -1), (lo, 0), (hi, 0), (hi + 1, 1), (lo - 50, -1), (hi + 50, 1),
                ((lo + hi) // 2, 0)):
                self.check_ways(range_ways((0, a), lo, hi), [(result, ())])

    def test_just_one_way_is_kept_and_it_is_right(self):
        for a, (lo, hi) in itertools.product((-3, 0, 2), ((-2, 4), (1, 1), (-5, -5), (0, 1))):
            ways = range_ways((1, a), lo, hi)
            for value in range(-12, 13):
                number = value + a
                self.assertEqual(self.one_way(ways, [value]), -1 if number < lo else 1 if number > hi else 0)

    def test_the_list_belongs_to_the_caller(self):
        for form in ((1, 0), (0, 2)):
            before = range_ways(form, 0, 3)
            range_ways(form, 0, 3).reverse()
            range_ways(form, 0, 3).clear()
            self.assertEqual(range_ways(form, 0, 3), before)


class FormValueTest(unittest.TestCase):

    def test_an_unknown_and_the_ground(self):
        for inputs in ([5, -7, GREAT], (5, -7, GREAT)):
            for form, value in (
                ((1, 0), 5), ((1, -9), -4), ((2, 3), -4), ((3, 1), GREAT + 1), ((3, -GREAT), 0), ((0, 4), 4),
                ((0, -4), -4), ((0, 0), 0), ((0, GREAT), GREAT),
            ):
                self.assertEqual(form_value(form, inputs), value)

    def test_the_inputs_are_left_as_they_were(self):
        inputs = [5, 6]
        form_value((2, 1), inputs)
        self.assertEqual(inputs, [5, 6])


if __name__ == "__main__":
    unittest.main()
