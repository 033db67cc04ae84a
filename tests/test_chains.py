import itertools
import unittest

from wayorring.chains import chain_sum, floor_value, is_ring, keeps

TIES = [(1, 0, 9), (0, 2, 0), (2, 1, -3), (1, 1, 5), (2, 2, -1), (0, 1, -4)]
GREAT = 10 ** 40


class ChainSumTest(unittest.TestCase):

    def test_the_example(self):
        ties = [(1, 0, 9), (0, 2, 0), (2, 1, -3)]
        self.assertEqual(chain_sum(ties, [1, 2]), (0, 1, -3))
        self.assertEqual(floor_value(ties, [1, 2], 1), 3)

    def test_one_number(self):
        for number, tie in enumerate(TIES):
            self.assertEqual(chain_sum(TIES, [number]), tie)

    def test_several_numbers(self):
        for numbers, found in (
            ([0, 1], (1, 2, 9)), ([0, 1, 2], (1, 1, 6)), ([1, 2, 0], (0, 0, 6)), ([0, 5], (1, 1, 5)),
            ([5, 0], (0, 0, 5)),
            ([1, 4, 4, 2, 3], (0, 1, 0)), ([1, 2, 0, 1, 2], (0, 1, 3)), ([3, 3, 3], (1, 1, 15)), ([4, 4], (2, 2, -2)),
        ):
            self.assertEqual(chain_sum(TIES, numbers), found, numbers)

    def test_numbers_out_of_range(self):
        for numbers in ([-1], [6], [7], [100], [-6], [-7], [0, -5], [0, 1, -4], [1, 6], [-6, 1], [6, 0], [0, 6, 1]):
            self.assertIsNone(chain_sum(TIES, numbers), numbers)
            self.assertIsNone(chain_sum(TIES, tuple(numbers)), numbers)
        self.assertIsNone(chain_sum([], [0]))
        self.assertIsNone(chain_sum([], [-1]))

    def test_numbers_that_do_not_fit(self):
        for numbers in ([0, 0], [1, 0], [2, 1], [0, 2], [0, 1, 0], [1, 2, 0, 3], [3, 4], [1, 4, 0]):
            self.assertIsNone(chain_sum(TIES, numbers), numbers)

    def test_none_at_all(self):
        for numbers in ([], ()):
            for ties in (TIES, tuple(TIES), [], ()):
                self.assertIsNone(chain_sum(ties, numbers))
                self.assertIs(is_ring(ties, numbers), False)
                self.assertIsNone(floor_value(ties, numbers, 1))

    def test_lists_and_tuples(self):
        for ties in (TIES, tuple(TIES)):
            for numbers in ([0, 1, 2], (0, 1, 2)):
                self.assertEqual(chain_sum(ties, numbers), (1, 1, 6))
                self.assertIs(is_ring(ties, numbers), False)
                self.assertIs(is_ring(ties, type(numbers)([2, 0, 1, 4, 4, 4, 4, 4, 4, 4])), True)
                self.assertEqual(floor_value(ties, type(numbers)([1, 2]), 1), 3)

    def test_great_integers(self):
        ties = [(0, 1, GREAT), (1, 0, -GREAT), (1, 0, -GREAT - 1)]
        self.assertEqual(chain_sum(ties, [0, 1, 0]), (0, 1, GREAT))
        self.assertEqual(chain_sum(ties, [0, 2]), (0, 0, -1))
        self.assertIs(is_ring(ties, [0, 1]), False)
        self.assertIs(is_ring(ties, [0, 2]), True)
        self.assertEqual(floor_value(ties, [0], 1), -GREAT)
        self.assertIsNone(chain_sum(ties, [GREAT]))
        self.assertIsNone(chain_sum(ties, [-GREAT]))

    def test_the_arguments_are_left_as_they_were(self):
        ties, numbers = list(TIES), [1, 2, 0]
        for _ in range(2):
            self.assertEqual(chain_sum(ties, numbers), (0, 0, 6))
            self.assertIs(is_ring(ties, numbers), False)
            self.assertIsNone(floor_value(ties, numbers, 1))
            self.assertIs(keeps(ties, [7, 5]), False)
        self.assertEqual((ties, numbers), (TIES, [1, 2, 0]))


class RingTest(unittest.TestCase):

    def test_sums_about_0(self):
        for total, found in ((-1, True), (0, False), (1, False), (-GREAT, True)):
            self.assertIs(is_ring([(1, 2, 4), (2, 1, total - 4)], [0, 1]), found, total)
            self.assertIs(is_ring([(1, 2, 4), (2, 1, total - 4)], [1, 0]), found, total)
            self.assertIs(is_ring([(3, 3, total)], [0]), found, total)
            self.assertIs(is_ring([(0, 1, 2), (1, 2, 2), (2, 0, total - 4)], (1, 2, 0)), found, total)

    def test_a_chain_that_does_not_end_where_it_began(self):
        for total in (-1, 0, 1):
            self.assertIs(is_ring([(0, 1, total)], [0]), False)
            self.assertIs(is_ring([(1, 2, total), (2, 3, -5)], [0, 1]), False)
            self.assertIs(is_ring([(1, 2, -9), (2, 1, -9)], [0, 1, 0]), False)

    def test_no_chain(self):
        ties = [(1, 2, -5), (2, 1, -5), (3, 3, -1)]
        for numbers in ([0, 2], [0, 0], [-1], [3], [0, 1, 2], [0, -2], []):
            self.assertIs(is_ring(ties, numbers), False, numbers)


class FloorTest(unittest.TestCase):

    def test_from_the_ground_to_the_unknown(self):
        self.assertEqual(floor_value(TIES, [5], 1), 4)
        self.assertEqual(floor_value(TIES, [1], 2), 0)
        self.assertEqual(floor_value(TIES, [1, 4, 2], 1), 4)
        self.assertEqual(floor_value(TIES, [5, 3], 1), -1)
        self.assertEqual(floor_value(TIES, [5, 0, 1], 2), -5)

    def test_to_another_unknown(self):
        self.assertIsNone(floor_value(TIES, [5], 2))
        self.assertIsNone(floor_value(TIES, [1], 1))
        self.assertIsNone(floor_value(TIES, [1, 2], 2))
        self.assertIsNone(floor_value(TIES, [5, 0], 1))

    def test_not_from_the_ground(self):
        self.assertIsNone(floor_value(TIES, [3], 1))
        self.assertIsNone(floor_value(TIES, [2], 1))
        self.assertIsNone(floor_value(TIES, [0], 1))
        self.assertIsNone(floor_value(TIES, [0, 5], 1))

    def test_no_chain(self):
        for numbers in ([1, 5], [-1], [6], [5, 5], [1, -4]):
            self.assertIsNone(floor_value(TIES, numbers, 1), numbers)


class KeepsTest(unittest.TestCase):

    def test_equality_and_one_beyond(self):
        for ties, good, bad in (
            ([(1, 0, 5)], [5], [6]), ([(0, 1, -5)], [5], [4]), ([(1, 2, 3)], [7, 4], [8, 4]),
            ([(2, 1, -3)], [7, 4], [7, 5]), ([(1, 1, 0)], [5], None), ([(0, 0, 0)], [5], None),
            ([(3, 2, GREAT)], [0, 1, GREAT + 1], [0, 1, GREAT + 2]),
        ):
            self.assertIs(keeps(ties, good), True, ties)
            self.assertIs(keeps(tuple(ties), tuple(good)), True, ties)
            if bad is not None:
                self.assertIs(keeps(ties, bad), False, ties)
                self.assertIs(keeps(tuple(ties), tuple(bad)), False, ties)

    def test_one_node_with_itself(self):
        for u in (0, 1, 2):
            self.assertIs(keeps([(u, u, 0)], [3, 4]), True)
            self.assertIs(keeps([(u, u, 1)], [3, 4]), True)
            self.assertIs(keeps([(u, u, -1)], [3, 4]), False)

    def test_all_must_be_kept(self):
        ties = [(1, 0, 5), (0, 2, -2), (2, 1, 0)]
        self.assertIs(keeps(ties, [5, 5]), True)
        self.assertIs(keeps(ties, [2, 2]), True)
        self.assertIs(keeps(ties, [6, 5]), False)
        self.assertIs(keeps(ties, [1, 1]), False)
        self.assertIs(keeps(ties, [3, 4]), False)
        self.assertIs(keeps([], [6, 7]), True)

    def test_no_values_keep_a_ring(self):
        ties = [(1, 2, -2), (2, 3, 1), (3, 1, 0)]
        self.assertTrue(is_ring(ties, [0, 1, 2]))
        for values in itertools.product(range(-3, 4), repeat=3):
            self.assertIs(keeps(ties, values), False)


if __name__ == "__main__":
    unittest.main()
