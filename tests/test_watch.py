import ast
import inspect
import unittest

import wayorring.watch
from wayorring.watch import Watch

A = ("var", "a", 0)
ONE = ("num", 1)
WHEN = ("when", 3, "<", A, ONE)
ATOMS = (("row", 3), ("yes", 3), ("no", 3), ("turn", 3, 2), ("fault", 3, "index"), ("fault", 3, "check"))
EVENTS = ATOMS + (
    ("row", 4), ("yes", 4), ("no", 4), ("turn", 4, 2), ("turn", 3, 1), ("turn", 2, 3), ("fault", 4, "index"),
    ("fault", 3, "range"), ("fault", 3, "row"), ("row", 0), ("row", -3), ("row", 10 ** 12),
)


def seen(place, *told):
    """What a Watch returns for these pairs of an event and a truth, and its progress at the end."""
    watch = Watch(place)
    found = [watch.see(event, truth) for event, truth in told]
    return found, watch.progress


class WatchTest(unittest.TestCase):

    def test_the_file_imports_nothing(self):
        tree = ast.parse(inspect.getsource(wayorring.watch))
        self.assertEqual([n for n in ast.walk(tree) if isinstance(n, (ast.Import, ast.ImportFrom))], [])

    def test_progress_is_0_at_first(self):
        for place in ((), (WHEN,), ATOMS[:1], ATOMS[:3]):
            self.assertEqual(Watch(place).progress, 0)

    def test_each_kind_of_atom_is_met_by_the_equal_event_alone(self):
        for atom in ATOMS:
            for event in EVENTS:
                watch = Watch((atom,))
                self.assertIs(watch.see(event, False), event == atom, (atom, event))
                self.assertEqual(watch.progress, 1 if event == atom else 0)

    def test_the_atoms_are_met_in_order(self):
        place = (("row", 3), ("yes", 3), ("turn", 3, 1))
        order = [(event, False) for event in place]
        self.assertEqual(seen(place, *order), ([False, False, True], 3))
        self.assertEqual(seen(place, order[1], order[2], order[0]), ([False] * 3, 1))
        self.assertEqual(seen(place, order[0], order[2], order[1]), ([False] * 3, 2))
        self.assertEqual(seen(place, order[0], order[0], order[1], order[0], order[2]), ([False] * 4 + [True], 3))

    def test_alike_atoms_want_several_events(self):
        twice = (("row", 3), ("row", 3))
        self.assertEqual(seen(twice, (("row", 3), False)), ([False], 1))
        self.assertEqual(seen(twice, (("row", 3), False), (("row", 3), False)), ([False, True], 2))
        thrice = (("fault", 5, "x"),) * 3
        self.assertEqual(seen(thrice, *[(("fault", 5, "x"), None)] * 3), ([False, False, True], 3))

    def test_one_event_does_not_meet_a_row_and_a_when(self):
        begins = ("row", 3)
        watch = Watch((begins, WHEN))
        self.assertIsNone(watch.wanted(begins))
        self.assertIs(watch.see(begins, True), False)
        self.assertEqual(watch.progress, 1)
        self.assertEqual(watch.wanted(begins), ("<", A, ONE))
        self.assertIs(watch.see(begins, True), True)
        watch = Watch((WHEN, begins))
        self.assertIs(watch.see(begins, True), False)
        self.assertEqual((watch.progress, watch.wanted(begins)), (1, None))
        self.assertIs(watch.see(begins, False), True)
        self.assertEqual(seen((WHEN, WHEN), (begins, True), (begins, True)), ([False, True], 2))

    def test_an_empty_place_is_never_met(self):
        watch = Watch(())
        for event in EVENTS:
            self.assertIsNone(watch.wanted(event))
            self.assertIs(watch.see(event, True), False)
        self.assertEqual(watch.progress, 0)

    def test_events_that_no_run_has(self):
        place = (("fault", -5, "x"), ("turn", 0, 99), ("row", 99))
        told = [(("turn", 0, 99), True), (("fault", -5, "x"), True), (("row", 99), True), (("turn", 0, 99), False),
            (("fault", -5, "x"), False), (("row", 98), True), (("row", 99), False)]
        self.assertEqual(seen(place, *told), ([False] * 6 + [True], 3))

    def test_two_watches_do_not_touch_each_other(self):
        place = (("row", 3), ("yes", 3))
        first, second = Watch(place), Watch(place)
        first.see(("row", 3), False)
        self.assertEqual((first.progress, second.progress), (1, 0))
        self.assertIs(second.see(("yes", 3), False), False)
        self.assertIs(first.see(("yes", 3), False), True)
        self.assertEqual((first.progress, second.progress), (2, 0))
        third = Watch(place)
        self.assertEqual(third.progress, 0)

    def test_true_is_returned_once_at_the_last_atom(self):
        place = (("row", 3), WHEN, ("no", 4))
        told = [(("row", 3), False), (("no", 4), False), (("row", 3), True), (("row", 3), True), (("no", 4), False)]
        found, progress = seen(place, *told)
        self.assertEqual(found, [False, False, False, False, True])
        self.assertEqual(progress, 3)
        for answer in found:
            self.assertIsInstance(answer, bool)


class WhenTest(unittest.TestCase):

    def test_wanted_at_the_beginning_of_the_row(self):
        watch = Watch((WHEN,))
        self.assertEqual(watch.wanted(("row", 3)), ("<", A, ONE))
        self.assertIsInstance(watch.wanted(("row", 3)), tuple)
        for event in EVENTS[1:]:
            self.assertIsNone(watch.wanted(event), event)

    def test_wanted_concerns_the_next_atom_alone(self):
        watch = Watch((("yes", 2), WHEN))
        self.assertIsNone(watch.wanted(("row", 3)))
        watch.see(("yes", 2), False)
        self.assertEqual(watch.wanted(("row", 3)), ("<", A, ONE))
        for atom in ATOMS:
            self.assertIsNone(Watch((atom,)).wanted(("row", 3)))

    def test_the_truth_decides(self):
        self.assertEqual(seen((WHEN,), (("row", 3), True)), ([True], 1))
        self.assertEqual(seen((WHEN,), (("row", 3), False)), ([False], 0))
        self.assertEqual(seen((WHEN,), (("row", 3), False), (("row", 3), True)), ([False, True], 1))

    def test_the_truth_is_not_looked_at_where_nothing_is_wanted(self):
        for truth in (True, False, None):
            for event in EVENTS[1:]:
                self.assertEqual(seen((WHEN,), (event, truth)), ([False], 0), event)
            for atom in ATOMS:
                self.assertEqual(seen((atom,), (atom, truth)), ([True], 1))
                self.assertEqual(seen((atom,), (("row", 4), truth)), ([False], 0))

    def test_see_does_not_hang_on_wanted(self):
        for asked in ((), (("row", 3),), (("row", 4),), (("yes", 3),), (("row", 3), ("row", 4), ("row", 3))):
            for truth in (True, False):
                watch = Watch((WHEN, ("row", 4)))
                for event in asked:
                    watch.wanted(event)
                self.assertEqual(watch.progress, 0)
                self.assertIs(watch.see(("row", 3), truth), False)
                self.assertEqual(watch.progress, 1 if truth else 0)

    def test_wanted_of_one_event_and_see_of_another(self):
        watch = Watch((WHEN,))
        self.assertEqual(watch.wanted(("row", 3)), ("<", A, ONE))
        self.assertIs(watch.see(("row", 4), True), False)
        self.assertIsNone(watch.wanted(("row", 4)))
        self.assertIs(watch.see(("row", 3), True), True)

    def test_the_place_is_left_as_it_was(self):
        place = (WHEN, ("row", 3))
        watch = Watch(place)
        watch.see(("row", 3), True)
        watch.see(("row", 3), True)
        self.assertEqual(place, (("when", 3, "<", A, ONE), ("row", 3)))

    def test_a_twin_goes_on_by_itself(self):
        watch = Watch((("row", 3), ("row", 4)))
        watch.see(("row", 3), False)
        twin = watch.twin()
        self.assertIs(twin.see(("row", 4), False), True)
        self.assertEqual((watch.progress, twin.progress), (1, 2))
        self.assertIs(watch.see(("row", 4), False), True)


if __name__ == "__main__":
    unittest.main()
