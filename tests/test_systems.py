import itertools
import random
import unittest

from wayorring.chains import floor_value, is_ring, keeps
from wayorring.systems import System

GREAT = 10 ** 40


def system_of(many, *differences):
    """A System that took these differences, which can be kept."""
    system = System(many)
    for difference in differences:
        assert system.tie(difference) is None
    return system


def least_bounds(many, differences):
    """The least bounds by looking at all nodes between, or None if there is a ring."""
    nodes = range(many + 1)
    bounds = {(u, v): 0 if u == v else None for u in nodes for v in nodes}
    for u, v, c in differences:
        if bounds[u, v] is None or c < bounds[u, v]:
            bounds[u, v] = c
    for through, u, v in itertools.product(nodes, nodes, nodes):
        if bounds[u, through] is not None and bounds[through, v] is not None:
            c = bounds[u, through] + bounds[through, v]
            if bounds[u, v] is None or c < bounds[u, v]:
                bounds[u, v] = c
    return None if any(bounds[u, u] < 0 for u in nodes) else bounds


class BoundsTest(unittest.TestCase):

    def test_no_bounds_at_first(self):
        for many in (1, 2, 12):
            system = System(many)
            self.assertEqual(system.differences, [])
            for u, v in itertools.product(range(many + 1), repeat=2):
                self.assertEqual(system.bound(u, v), 0 if u == v else None)
            self.assertIsNone(system.floors())
            self.assertIsNone(system.least_values())

    def test_one_difference(self):
        system = system_of(2, (1, 2, -4))
        self.assertEqual(system.bound(1, 2), -4)
        for u, v in ((2, 1), (0, 1), (1, 0), (0, 2), (2, 0)):
            self.assertIsNone(system.bound(u, v))

    def test_bounds_that_follow_in_any_order_of_tying(self):
        ties = [(1, 2, 3), (2, 3, -1), (3, 0, 4), (0, 4, 7)]
        for order in itertools.permutations(ties):
            system = system_of(4, *order)
            for u, v, c in (
                (1, 2, 3), (1, 3, 2), (1, 0, 6), (1, 4, 13), (2, 3, -1), (2, 0, 3), (2, 4, 10), (3, 0, 4), (3, 4, 11),
                (0, 4, 7), (4, 0, None), (0, 1, None), (3, 1, None), (4, 1, None), (2, 1, None),
            ):
                self.assertEqual(system.bound(u, v), c, (order, u, v))
            for u in range(5):
                self.assertEqual(system.bound(u, u), 0)

    def test_the_shorter_of_two_ways(self):
        for order in itertools.permutations([(1, 2, 5), (2, 3, 5), (1, 3, 9), (1, 3, 11)]):
            self.assertEqual(system_of(3, *order).bound(1, 3), 9)
        for order in itertools.permutations([(1, 2, 4), (2, 3, 4), (1, 3, 9)]):
            self.assertEqual(system_of(3, *order).bound(1, 3), 8)

    def test_a_looser_difference_changes_nothing(self):
        system = system_of(2, (1, 2, 3), (2, 0, 1), (0, 2, 0), (0, 1, 0))
        before = [system.bound(u, v) for u in range(3) for v in range(3)]
        floors = system.floors()
        for looser in ((1, 2, 4), (1, 2, 3), (1, 0, 4), (1, 0, 99), (2, 2, 0), (0, 0, 5)):
            self.assertIsNone(system.tie(looser))
            self.assertEqual([system.bound(u, v) for u in range(3) for v in range(3)], before)
            self.assertEqual(system.floors(), floors)
        self.assertEqual(len(system.differences), 10)

    def test_a_tighter_difference_in_place_of_a_looser_one(self):
        system = system_of(2, (1, 2, 3), (2, 0, 1))
        self.assertEqual(system.bound(1, 0), 4)
        self.assertIsNone(system.tie((1, 2, 1)))
        self.assertEqual((system.bound(1, 2), system.bound(1, 0)), (1, 2))
        self.assertIsNone(system.tie((1, 0, -7)))
        self.assertEqual((system.bound(1, 2), system.bound(1, 0)), (1, -7))

    def test_differences_in_the_order_taken(self):
        ties = [(1, 2, 3), (1, 2, 5), (0, 1, 0), (2, 2, 4), (1, 2, 3)]
        system = System(2)
        for many, tie in enumerate(ties, start=1):
            system.tie(tie)
            self.assertEqual(system.differences, ties[:many])


class RingsTest(unittest.TestCase):

    def check_ring(self, many, ties, last):
        system = system_of(many, *ties)
        ring = system.tie(last)
        self.assertIsInstance(ring, tuple)
        self.assertTrue(is_ring(list(ties) + [last], ring), ring)
        self.assertIn(len(ties), ring)
        return ring

    def test_one_difference(self):
        self.assertEqual(self.check_ring(1, [], (1, 1, -1)), (0,))
        self.assertEqual(self.check_ring(2, [(1, 2, 0)], (0, 0, -1)), (1,))
        for c in (0, 1):
            self.assertIsNone(System(1).tie((1, 1, c)))

    def test_two_differences(self):
        ring = self.check_ring(2, [(1, 0, 9), (1, 2, 3)], (2, 1, -4))
        self.assertEqual(sorted(ring), [1, 2])
        ring = self.check_ring(1, [(1, 0, 9), (0, 1, 5), (1, 0, 3)], (0, 1, -4))
        self.assertEqual(sorted(ring), [2, 3])

    def test_more_differences(self):
        ties = [(1, 2, 1), (2, 3, 1), (3, 4, 1), (4, 5, 1)]
        for order in itertools.permutations(ties + [(5, 1, -5)]):
            ring = self.check_ring(5, order[:-1], order[-1])
            self.assertEqual(sorted(ring), [0, 1, 2, 3, 4])

    def test_a_sum_of_0_is_no_ring(self):
        system = system_of(3, (1, 2, 4), (2, 1, -4), (2, 3, 1), (3, 1, -5))
        self.assertEqual((system.bound(1, 2), system.bound(2, 1), system.bound(1, 3)), (4, -4, 5))
        self.assertIsNotNone(system.tie((3, 1, -6)))

    def test_a_looser_difference_can_make_no_ring(self):
        system = system_of(2, (1, 2, -4), (2, 1, 4))
        self.assertIsNone(system.tie((1, 2, 7)))
        self.assertIsNone(system.tie((2, 1, 9)))
        self.assertIsNone(system.tie((1, 2, -4)))
        self.assertTrue(is_ring([(1, 2, -4), (2, 1, 4), (1, 2, 7), (2, 1, 9), (1, 2, -4), (1, 2, -5)],
            system.tie((1, 2, -5))))

    def test_great_integers(self):
        self.check_ring(2, [(1, 2, GREAT)], (2, 1, -GREAT - 1))
        self.assertIsNone(system_of(2, (1, 2, GREAT)).tie((2, 1, -GREAT)))


class LeastValuesTest(unittest.TestCase):

    def test_none_while_an_unknown_has_no_floor(self):
        system = system_of(3, (0, 1, -4), (1, 0, 9), (1, 2, 0), (3, 0, 5))
        self.assertIsNone(system.least_values())
        self.assertIsNone(system.floors())
        system.tie((2, 3, 7))
        self.assertEqual(system.least_values(), [4, 4, -3])
        self.assertIsNotNone(system.floors())

    def test_a_floor_that_follows(self):
        system = system_of(2, (2, 1, -3), (0, 2, 5), (1, 0, 9))
        self.assertEqual(system.least_values(), [-2, -5])
        self.assertEqual(system.floors(), ((1, 0), (1,)))

    def test_the_chains_of_the_floors_show_the_least_values(self):
        system = system_of(3, (1, 0, 9), (0, 1, 0), (0, 2, 0), (0, 3, 0), (1, 2, -2), (2, 3, -3), (3, 0, 20))
        floors = system.floors()
        self.assertIsInstance(floors, tuple)
        self.assertEqual(len(floors), 3)
        shown = []
        for unknown, floor in enumerate(floors, start=1):
            self.assertIsInstance(floor, tuple)
            shown.append(floor_value(system.differences, floor, unknown))
        self.assertEqual(shown, [0, 2, 5])
        self.assertEqual(system.least_values(), [0, 2, 5])

    def test_the_least_values_belong_to_the_caller(self):
        system = system_of(1, (0, 1, -3))
        system.least_values().append(5)
        system.least_values()[0] = 7
        self.assertEqual(system.least_values(), [3])

    def test_no_other_values_that_keep_all_are_below(self):
        chance = random.Random(4)
        for _ in range(60):
            ties = [(k, 0, 3) for k in (1, 2, 3)] + [(0, k, 3) for k in (1, 2, 3)]
            system = system_of(3, *ties)
            for _ in range(6):
                u, v = chance.sample(range(4), 2)
                tie = (u, v, chance.randint(-3, 3))
                ring = system.twin().tie(tie)
                if ring is None:
                    system.tie(tie)
                    ties.append(tie)
                    continue
                self.assertTrue(is_ring(ties + [tie], ring))
                for values in itertools.product(range(-3, 4), repeat=3):
                    self.assertFalse(keeps(ties + [tie], values))
            kept = [values for values in itertools.product(range(-3, 4), repeat=3) if keeps(ties, values)]
            least = system.least_values()
            self.assertIn(tuple(least), kept)
            for values in kept:
                self.assertTrue(all(low <= value for low, value in zip(least, values)))


class TwinTest(unittest.TestCase):

    def test_a_twin_goes_on_by_itself(self):
        system = system_of(2, (1, 2, 3), (0, 1, 0), (0, 2, 0))
        twin = system.twin()
        self.assertEqual(twin.differences, system.differences)
        self.assertEqual(twin.least_values(), [0, 0])
        self.assertIsNone(twin.tie((1, 2, -1)))
        self.assertEqual((twin.bound(1, 2), system.bound(1, 2)), (-1, 3))
        self.assertEqual((twin.least_values(), system.least_values()), ([0, 1], [0, 0]))
        self.assertEqual((len(twin.differences), len(system.differences)), (4, 3))

    def test_the_first_one_goes_on_by_itself(self):
        system = system_of(2, (1, 2, 3), (0, 1, 0), (0, 2, 0))
        twin = system.twin()
        floors = twin.floors()
        self.assertIsNone(system.tie((0, 1, -4)))
        self.assertEqual((system.least_values(), twin.least_values()), ([4, 1], [0, 0]))
        self.assertEqual(twin.floors(), floors)
        self.assertIsNone(twin.tie((2, 1, 5)))
        self.assertEqual((system.bound(2, 1), twin.bound(2, 1)), (None, 5))
        self.assertEqual(system.differences[3:], [(0, 1, -4)])
        self.assertEqual(twin.differences[3:], [(2, 1, 5)])

    def test_a_ring_of_a_twin_does_not_touch_the_first_one(self):
        system = system_of(1, (1, 0, 5))
        twin = system.twin()
        self.assertEqual(sorted(twin.tie((0, 1, -6))), [0, 1])
        self.assertEqual(system.differences, [(1, 0, 5)])
        self.assertIsNone(system.tie((0, 1, -5)))
        self.assertEqual(system.least_values(), [5])

    def test_a_twin_of_a_twin(self):
        systems = [system_of(1, (0, 1, 0))]
        for c in range(1, 5):
            systems.append(systems[-1].twin())
            systems[-1].tie((0, 1, -c))
        self.assertEqual([system.least_values() for system in systems], [[0], [1], [2], [3], [4]])


class ManyTest(unittest.TestCase):

    def go(self, many, ties):
        """Ties until there is a ring, and compares with the least bounds; the number of differences without one."""
        system = System(many)
        for at, tie in enumerate(ties):
            ring = system.tie(tie)
            self.assertEqual(system.differences, list(ties[:at + 1]))
            expected = least_bounds(many, ties[:at + 1])
            if expected is None:
                self.assertTrue(is_ring(ties[:at + 1], ring))
                self.assertIn(at, ring)
                return at
            self.assertIsNone(ring)
            if at % 5 == 4 or at + 1 == len(ties):
                self.compare(system, many, expected)
        return len(ties)

    def compare(self, system, many, expected):
        for (u, v), c in expected.items():
            self.assertEqual(system.bound(u, v), c)
        lows = [expected[0, k] for k in range(1, many + 1)]
        if None in lows:
            self.assertIsNone(system.floors())
            self.assertIsNone(system.least_values())
            return
        self.assertEqual(system.least_values(), [-c for c in lows])
        self.assertTrue(keeps(system.differences, system.least_values()))
        for k, floor in enumerate(system.floors(), start=1):
            self.assertEqual(floor_value(system.differences, floor, k), -lows[k - 1])

    def test_up_to_twelve_unknowns_and_dozens_of_differences(self):
        chance = random.Random(11)
        longest = 0
        for many in list(range(1, 13)) * 3:
            values = [0] + [chance.randint(-50, 50) for _ in range(many)]
            ties = []
            for _ in range(60):
                u, v = chance.randrange(many + 1), chance.randrange(many + 1)
                ties.append((u, v, values[u] - values[v] + chance.choice([0, 0, 1, 5, 40])))
            self.assertEqual(self.go(many, ties), 60)
            longest = max(longest, self.go(many, [(u, v, c - 1) for u, v, c in ties]))
        self.assertGreater(longest, 3)

    def test_differences_that_soon_make_a_ring(self):
        chance = random.Random(12)
        for many in (1, 2, 3, 5, 12):
            for _ in range(15):
                ties = [(chance.randrange(many + 1), chance.randrange(many + 1),
                    chance.randint(-3, 9)) for _ in range(40)]
                self.go(many, ties)

    def test_integers_of_forty_figures(self):
        chance = random.Random(13)
        for many in (1, 4, 12):
            values = [0] + [chance.randint(-GREAT, GREAT) for _ in range(many)]
            ties = []
            for _ in range(40):
                u, v = chance.sample(range(many + 1), 2)
                ties.append((u, v, values[u] - values[v] + chance.choice([0, 1, GREAT])))
            self.assertEqual(self.go(many, ties), 40)

    def test_some_thousand_differences(self):
        system = System(2)
        for k in range(3000):
            self.assertIsNone(system.tie((0, 1, -k)))
            self.assertIsNone(system.tie((1, 2, 3000 - k)))
        self.assertEqual(system.least_values()[0], 2999)
        self.assertEqual(system.bound(0, 2), -2999 + 1)
        self.assertEqual(len(system.differences), 6000)


if __name__ == "__main__":
    unittest.main()
