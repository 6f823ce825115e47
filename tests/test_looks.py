"""[9] fits, broken and the errors of looks, wherever looks are passed."""

import unittest

from firstbore.deciding import first_ones, greatest, possible, since_possibly, since_surely, status
from firstbore.errors import InvalidLooks, InvalidWorld
from firstbore.looks import broken, fits
from firstbore.papers import paper, paper_holds
from firstbore.plans import Plan
from samples import (
    LOOKS, MORE, NONE_FITS, cases, example, expected_broken, nested, no_names, no_sequences, tried_cases,
)

FAR = 10**18


def one_plan(show, span=(0, 9)):
    """Return a plan of ann alone."""
    return Plan([("ann", 1, show, span)])


class Holding(unittest.TestCase):
    def check(self, plan, looks, world, ats):
        with self.subTest(looks=looks, world=world):
            self.assertEqual(broken(plan, looks, world), ats)
            self.assertIsInstance(broken(plan, looks, world), tuple)
            self.assertIs(fits(plan, looks, world), ats == ())

    def test_example(self):
        plan = example()
        self.check(plan, list(MORE), [("cyd", 4)], ())
        self.check(plan, list(MORE), (("ann", 1),), (1,))
        self.check(plan, list(MORE), [("cyd", 5)], (0,))

    def test_day_ahead_day_itself_and_day_behind(self):
        # ann shows it since day 5: borne since 2, shown after 3 days.
        for day, is_showing in ((0, False), (4, False), (5, True), (6, True), (FAR, True)):
            self.check(one_plan(3), [(day, "ann", True)], [("ann", 2)], () if is_showing else (0,))
            self.check(one_plan(3), [(day, "ann", False)], [("ann", 2)], (0,) if is_showing else ())

    def test_show_of_no_days(self):
        for day, is_showing in ((1, False), (2, True), (3, True)):
            self.check(one_plan(0), [(day, "ann", is_showing)], [("ann", 2)], ())
            self.check(one_plan(0), [(day, "ann", not is_showing)], [("ann", 2)], (0,))

    def test_show_and_not_wait_counts(self):
        plan = Plan([("ann", 1, 4, (0, 9)), ("bob", 5, 1, None)], [(3, "ann", "bob")])
        looks = [(3, "ann", False), (4, "ann", True), (3, "bob", False), (4, "bob", True)]
        self.check(plan, looks, [("ann", 0)], ())
        self.check(plan, [(day, name, not shown) for day, name, shown in looks], [("ann", 0)], (0, 1, 2, 3))

    def test_somebody_who_got_it_at_a_meeting(self):
        # By ann since day 1: bob since 3, cyd since 5, dan since 8.
        plan = example()
        for name, first in (("ann", 4), ("bob", 4), ("cyd", 7), ("dan", 8)):
            looks = [(first - 1, name, False), (first, name, True), (first - 1, name, True), (first, name, False)]
            self.check(plan, looks, [("ann", 1)], (2, 3))

    def test_first_one_who_bears_it_earlier_than_the_own_day(self):
        # cyd bears it since day 5 by bob, though the own day is 9; shown after 2 days.
        self.check(example(), [(6, "cyd", False), (7, "cyd", True)], [("ann", 1), ("cyd", 9)], ())

    def test_somebody_who_never_bears_it(self):
        plan = example()
        self.check(plan, [(FAR, "ann", False), (FAR, "dan", False)], [("cyd", 9)], ())
        self.check(plan, [(FAR, "ann", True), (FAR, "dan", True)], [("cyd", 9)], (0, 1))

    def test_several_broken_ones_are_ascending(self):
        plan = example()
        looks = [(9, "dan", True), (9, "ann", False), (0, "ann", True), (9, "cyd", True), (9, "bob", True)]
        self.check(plan, looks, [("cyd", 9)], (0, 2, 3, 4))
        self.check(plan, looks[::-1], [("cyd", 9)], (0, 1, 2, 4))

    def test_no_looks(self):
        for looks in ([], ()):
            for world in ([], (), [("ann", 1)], [("cyd", 4), ("ann", 0)]):
                self.check(example(), looks, world, ())

    def test_a_look_twice(self):
        look = (9, "dan", True)
        self.check(example(), [look, look], [("ann", 1)], ())
        self.check(example(), [look, (9, "ann", True), look], [("ann", 9)], (0, 1, 2))
        self.check(example(), [look, (9, "dan", False)], [("ann", 1)], (1,))

    def test_nobody(self):
        for world in ([], ()):
            self.check(example(), [(FAR, "ann", False), (0, "bob", True), (0, "dan", False)], world, (1,))

    def test_look_ahead_of_what_the_show_asks_for(self):
        plan = one_plan(FAR, (0, FAR))
        self.check(plan, [(FAR - 1, "ann", False), (0, "ann", False)], [("ann", 0)], ())
        self.check(plan, [(FAR, "ann", True)], [("ann", 0)], ())
        self.check(plan, [(FAR, "ann", True)], [("ann", 1)], (0,))

    def test_against_the_words_of_the_document(self):
        for plan, worlds, looks in tried_cases(40, seed=11):
            for world in worlds[:: max(1, len(worlds) // 20)]:
                self.check(plan, looks, world, expected_broken(plan, looks, world))
        for plan, world in cases(100, seed=12):
            looks = [(day, name, day % 2 == 0) for day in (3, 6, 9, 12) for name in plan.names[:3]]
            self.check(plan, looks, world, expected_broken(plan, looks, world))


def calls_with(plan, looks):
    """Return a call of each function that takes looks."""
    name = plan.names[0]
    return [
        lambda: fits(plan, looks, []),
        lambda: broken(plan, looks, []),
        lambda: possible(plan, looks),
        lambda: greatest(plan, looks),
        lambda: since_possibly(plan, looks, name),
        lambda: since_surely(plan, looks, name),
        lambda: status(plan, looks, name, 3),
        lambda: first_ones(plan, looks),
        lambda: paper(plan, looks, name, 3),
        lambda: paper_holds(plan, looks, name, 3, ((0, 4), 0)),
    ]


class Wrong(unittest.TestCase):
    def check(self, at, looks):
        for number, call in enumerate(calls_with(example(), looks)):
            with self.subTest(looks=looks, call=number):
                with self.assertRaises(InvalidLooks) as caught:
                    call()
                self.assertEqual(caught.exception.at, at)
                self.assertIsInstance(caught.exception.at, int)

    def check_look(self, look):
        self.check(0, [look])
        self.check(0, (look, (9, "dan", True)))
        self.check(2, [(9, "dan", True), (6, "ann", False), look, None])
        # Looks that no world fits are still looks: NoWorld comes behind.
        self.check(2, NONE_FITS + (look,))

    def test_no_sequence(self):
        for value in no_sequences():
            self.check(0, value)

    def test_any_values(self):
        for value in no_names():
            self.check_look(value)
            self.check_look((9, value, True))
            if not isinstance(value, int) or isinstance(value, bool) or value < 0:
                self.check_look((value, "dan", True))
            if not isinstance(value, bool):
                self.check_look((9, "dan", value))

    def test_sequences_of_any_values(self):
        self.check(0, nested(list, 1))
        self.check(0, nested(tuple, "dan"))
        self.check(0, (9, "dan", True))
        self.check(0, [9, "dan", True])
        self.check(0, [[(9, "dan", True)]])

    def test_lists_for_triples(self):
        self.check_look([9, "dan", True])
        self.check_look([9, "dan", False])

    def test_triples_of_two_and_of_four_things(self):
        for look in [(9, "dan"), (9, "dan", True, True), ("dan", True), (9, True), (9,), (), (True, "dan", 9), "dan"]:
            self.check_look(look)

    def test_days(self):
        for day in (-1, -FAR, True, False, None, "9", [9], (9,)):
            self.check_look((day, "dan", True))

    def test_names_of_nobody(self):
        for name in ("eve", "", "Dan", "dan ", "DAN", 3, None, True, ["dan"], ("dan",)):
            self.check_look((9, name, True))

    def test_results_that_are_no_bools(self):
        for result in (0, 1, None, "", "True", [], [True], (True,)):
            self.check_look((9, "dan", result))

    def test_the_first_wrong_thing_counts(self):
        self.check(0, [None, (9, "eve", True), (-1, "ann", True)])
        self.check(1, [(9, "dan", True), (9, "eve", True), None])
        self.check(3, [(9, "dan", True)] * 3 + [(9, "dan", 1), (-1, "dan", True)])

    def test_names_of_another_plan(self):
        plan = Plan([("eve", 1, 0, (0, 9))])
        for call in calls_with(plan, [(3, "eve", True), (3, "ann", True)]):
            with self.assertRaises(InvalidLooks) as caught:
                call()
            self.assertEqual(caught.exception.at, 1)

    def test_wrong_world(self):
        for world, at in ((None, 0), ([("ann", 10)], 0), ([("ann", 1), ("ann", 1)], 1), ([("cyd", 4), ("bob", 1)], 1)):
            for call in (fits, broken):
                for looks in ([], MORE, NONE_FITS):
                    with self.assertRaises(InvalidWorld) as caught:
                        call(example(), looks, world)
                    self.assertEqual(caught.exception.at, at)

    def test_wrong_looks_ahead_of_a_wrong_world(self):
        for call in (fits, broken):
            for looks, at in ((None, 0), ([None], 0), ([(9, "dan", True), (9, "dan", 1)], 1)):
                for world in (None, "ann", [("ann", 10)], [("cyd", 4), ("bob", 1)]):
                    with self.assertRaises(InvalidLooks) as caught:
                        call(example(), looks, world)
                    self.assertEqual(caught.exception.at, at)


class Calls(unittest.TestCase):
    def test_arguments_by_name_in_another_order(self):
        plan = example()
        self.assertEqual(broken(world=[("ann", 1)], looks=MORE, plan=plan), (1,))
        self.assertIs(fits(looks=MORE, world=[("cyd", 4)], plan=plan), True)
        self.assertIs(fits(plan, world=[("ann", 1)], looks=MORE), False)

    def test_lists_and_tuples_are_looks(self):
        plan = example()
        for looks in (list(MORE), tuple(MORE)):
            self.assertEqual(broken(plan, looks, [("ann", 1)]), (1,))
            self.assertIs(fits(plan, looks, (("cyd", 4),)), True)

    def test_arguments_stay_as_they_were_and_the_same_call_gives_the_same(self):
        plan = example()
        looks = [(9, "dan", True), (6, "ann", False)]
        world = [("cyd", 5), ("ann", 9)]
        for turn in range(2):
            self.assertEqual(broken(plan, looks, world), (0,))
            self.assertEqual(broken(plan, looks, []), (0,))
            self.assertIs(fits(plan, looks, world), False)
            self.assertIs(fits(plan, [], world), True)
        self.assertEqual(looks, [(9, "dan", True), (6, "ann", False)])
        self.assertEqual(world, [("cyd", 5), ("ann", 9)])
        self.assertEqual(plan, example())

    def test_looks_that_change_afterwards(self):
        plan = example()
        looks = list(LOOKS)
        told = broken(plan, looks, [("ann", 9)])
        looks.clear()
        self.assertEqual(told, (0,))
        self.assertEqual(broken(plan, looks, [("ann", 9)]), ())


if __name__ == "__main__":
    unittest.main()
