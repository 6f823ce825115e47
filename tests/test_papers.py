"""[12] papers, held against the words of the document and against all worlds tried one by one."""

import itertools
import random
import unittest

from firstbore.deciding import possible, since_surely
from firstbore.errors import InvalidLooks, NoName, NoWorld
from firstbore.papers import paper, paper_holds
from firstbore.plans import Plan
from samples import (
    LOOKS, MORE, NAMES, NONE_FITS, example, expected_broken, expected_since, fitting_days, moved, nested, no_names,
    tried_cases,
)

FAR = 10**18
MOVE = 10**17


def firsts_of(plan):
    """Return (name, first day, last day) of those with a span."""
    return [(person[0],) + person[3] for person in plan.people if person[3] is not None]


def all_papers(plan, looks):
    """Return all values of the form of a paper."""
    days = [range(first, last + 2) for name, first, last in firsts_of(plan)]
    return list(itertools.product(itertools.product(*days), range(len(looks))))


def expected_to_hold(plan, looks, name, day, value):
    """Follow the words of [12] for a value of the right form."""
    days, at = value
    world = []
    for (other, first, last), start in zip(firsts_of(plan), days):
        if start != first:
            alone = [(other, start - 1)]
            borne = expected_since(plan, alone)[plan.place(name)]
            breaks = any(not looks[number][2] for number in expected_broken(plan, looks, alone))
            if not breaks and (borne is None or borne > day):
                return False
        if start <= last:
            world.append((other, start))
    return looks[at][2] and at in expected_broken(plan, looks, world)


class Tried(unittest.TestCase):
    def test_a_paper_is_told_just_where_it_is_surely_so(self):
        told = 0
        for plan, worlds, looks in tried_cases(120, seed=31):
            fitting = fitting_days(plan, worlds, looks)
            for place, name in enumerate(plan.names):
                for day in range(0, 15):
                    with self.subTest(plan=str(plan), looks=looks, name=name, day=day):
                        if not fitting:
                            self.assertRaises(NoWorld, paper, plan, looks, name, day)
                            continue
                        is_sure = all(days[place] is not None and days[place] <= day for world, days in fitting)
                        value = paper(plan, looks, name, day)
                        self.assertIs(value is not None, is_sure)
                        if value is not None:
                            told += 1
                            self.assertIs(paper_holds(plan, looks, name, day, value), True)
                            self.assertTrue(expected_to_hold(plan, looks, name, day, value))
        self.assertGreater(told, 300)

    def test_all_values_of_the_form(self):
        rng = random.Random(32)
        told = {True: 0, False: 0}
        for plan, worlds, looks in tried_cases(60, seed=32):
            values = all_papers(plan, looks)
            name = rng.choice(plan.names)
            for day in (rng.randint(0, 10), 14):
                for value in rng.sample(values, min(len(values), 60)):
                    is_right = expected_to_hold(plan, looks, name, day, value)
                    told[is_right] += 1
                    with self.subTest(plan=str(plan), looks=looks, name=name, day=day, value=value):
                        self.assertIs(paper_holds(plan, looks, name, day, value), is_right)
        self.assertGreater(min(told.values()), 100, told)

    def test_no_right_paper_where_it_is_not_surely_so(self):
        for plan, worlds, looks in tried_cases(40, seed=33):
            fitting = fitting_days(plan, worlds, looks)
            name = plan.names[0]
            for day in (3, 6, 9):
                if all(days[0] is not None and days[0] <= day for world, days in fitting):
                    continue
                for value in all_papers(plan, looks)[::3]:
                    self.assertIs(paper_holds(plan, looks, name, day, value), False)

    def test_days_moved_far(self):
        for plan, worlds, looks in tried_cases(40, seed=34):
            far_plan, far_looks = moved(plan, looks, MOVE)
            if not possible(plan, looks):
                continue
            for name in plan.names:
                for day in (4, 7, 10):
                    value = paper(far_plan, far_looks, name, day + MOVE)
                    self.assertEqual(value is None, paper(plan, looks, name, day) is None)
                    if value is not None:
                        self.assertIs(paper_holds(far_plan, far_looks, name, day + MOVE, value), True)
                        near = (tuple(start - MOVE for start in value[0]), value[1])
                        self.assertIs(paper_holds(plan, looks, name, day, near), True)


class Example(unittest.TestCase):
    def test_example(self):
        plan = example()
        looks = list(LOOKS)
        self.assertEqual(paper(plan, looks, "dan", 8), ((2, 5), 0))
        self.assertIsNone(paper(plan, looks, "dan", 7))
        self.assertIs(paper_holds(plan, looks, "dan", 8, ((2, 5), 0)), True)

    def test_days_ahead_and_behind(self):
        plan = example()
        for days in ((1, 5), (0, 5), (3, 5), (10, 5), (2, 4), (2, 6), (2, 10), (0, 4), (10, 10)):
            self.assertIs(paper_holds(plan, LOOKS, "dan", 8, (days, 0)), False)

    def test_day_ahead_and_days_behind(self):
        plan = example()
        self.assertIs(paper_holds(plan, LOOKS, "dan", 7, ((2, 5), 0)), False)
        for day in (9, 10, FAR):
            self.assertIs(paper_holds(plan, LOOKS, "dan", day, ((2, 5), 0)), True)
            self.assertIs(paper_holds(plan, LOOKS, "dan", day, paper(plan, LOOKS, "dan", day)), True)

    def test_another_name(self):
        plan = example()
        self.assertIs(paper_holds(plan, LOOKS, "ann", FAR, ((2, 5), 0)), False)
        # By ann since day 1, bob bears it since 3 and cyd since 5; by cyd since day 4, bob since 8.
        for name, day in (("bob", 8), ("cyd", 5)):
            self.assertIs(paper_holds(plan, LOOKS, name, day, ((2, 5), 0)), True)
            self.assertIs(paper_holds(plan, LOOKS, name, day - 1, ((2, 5), 0)), False)


class Edges(unittest.TestCase):
    def check(self, plan, looks, name, day, is_sure):
        with self.subTest(looks=looks, name=name, day=day):
            value = paper(plan, looks, name, day)
            self.assertIs(value is not None, is_sure)
            if is_sure:
                self.assertIs(paper_holds(plan, looks, name, day, value), True)
            return value

    def test_looks_that_show_nothing_make_later_days_possible(self):
        plan = example()
        self.check(plan, MORE, "dan", 5, False)
        self.check(plan, MORE, "dan", 6, True)
        # ann since day 3 or earlier shows it on day 6, and brings it to nobody by day 4.
        for start in (2, 3, 4):
            self.assertIs(paper_holds(plan, MORE, "cyd", 4, ((start, 5), 0)), True)
            self.assertIs(paper_holds(plan, LOOKS, "cyd", 4, ((start, 5), 0)), False)
        self.assertIs(paper_holds(plan, MORE, "cyd", 4, ((5, 5), 0)), False)
        # With a look that shows nothing a day ahead, just one day less.
        less = LOOKS + ((5, "ann", False),)
        self.assertIs(paper_holds(plan, less, "cyd", 4, ((3, 5), 0)), True)
        self.assertIs(paper_holds(plan, less, "cyd", 4, ((4, 5), 0)), False)

    def test_only_looks_that_show_nothing_make_later_days_possible(self):
        # ann since day 4 or later breaks the look at bob, but this one shows something.
        plan = Plan([("ann", 1, 0, (0, 9)), ("bob", 1, 0, None)], [(4, "ann", "bob")])
        looks = [(5, "bob", True)]
        self.assertIs(paper_holds(plan, looks, "bob", 4, ((4,), 0)), True)
        self.assertIs(paper_holds(plan, looks, "bob", 4, ((5,), 0)), False)
        self.assertIs(paper_holds(plan, looks, "bob", 4, ((10,), 0)), False)
        self.assertIs(paper_holds(plan, looks, "ann", 9, ((10,), 0)), True)

    def test_the_look_is_one_that_shows_something_and_does_not_hold(self):
        plan = example()
        looks = [(6, "ann", False), (9, "dan", True), (20, "ann", True), (9, "dan", True)]
        for at, is_right in ((0, False), (1, True), (2, False), (3, True)):
            self.assertIs(paper_holds(plan, looks, "cyd", 4, ((4, 5), at)), is_right)

    def test_a_look_that_shows_nothing_and_breaks_is_no_look_of_a_paper(self):
        plan = Plan([("ann", 1, 0, (0, 9))])
        looks = [(9, "ann", False), (9, "ann", True)]
        self.assertIs(paper_holds(plan, looks, "ann", 3, ((0,), 0)), False)
        self.assertIs(paper_holds(plan, looks, "ann", 3, ((0,), 1)), False)
        self.assertIs(paper_holds(plan, looks, "ann", 3, ((10,), 1)), True)
        self.assertIs(paper_holds(plan, looks, "ann", 3, ((10,), 0)), False)

    def test_looks_that_no_world_fits(self):
        plan = example()
        for name in NAMES:
            for day in (0, 6, FAR):
                self.assertRaises(NoWorld, paper, plan, NONE_FITS, name, day)
                # Without anybody the look at dan that shows something breaks, and each alone breaks the other one.
                self.assertIs(paper_holds(plan, NONE_FITS, name, day, ((2, 5), 0)), True)
                self.assertIs(paper_holds(plan, NONE_FITS, name, day, ((2, 5), 1)), False)
                self.assertIs(paper_holds(plan, NONE_FITS, name, day, None), False)

    def test_a_world_that_cannot_be_at_all(self):
        plan = example()
        looks = [(2, "dan", True)]
        self.assertRaises(NoWorld, paper, plan, looks, "ann", 3)
        self.assertIs(paper_holds(plan, looks, "ann", 0, ((0, 4), 0)), True)

    def test_no_looks_and_such_that_show_nothing_alone(self):
        for looks in ((), [], [(FAR, "ann", False)]):
            for name in NAMES:
                self.check(example(), looks, name, FAR, False)
        for value in (((0, 4), 0), ((10, 10), 0)):
            self.assertIs(paper_holds(example(), [], "dan", FAR, value), False)
            self.assertIs(paper_holds(example(), [(FAR, "ann", False)], "dan", FAR, value), False)

    def test_nobody_has_a_span(self):
        plan = Plan([("ann", 1, 0, None)])
        self.check(plan, [(3, "ann", False)], "ann", FAR, False)
        self.assertIs(paper_holds(plan, [(3, "ann", True)], "ann", 0, ((), 0)), True)
        self.assertIs(paper_holds(plan, [(3, "ann", True)], "ann", 0, ((0,), 0)), False)
        self.assertIs(paper_holds(plan, [(3, "ann", False)], "ann", 0, ((), 0)), False)

    def test_people_whose_days_are_behind_the_span(self):
        plan = Plan([("ann", 1, 0, (3, 6)), ("bob", 1, 0, (0, 0))], [(2, "bob", "ann")])
        looks = [(9, "ann", True)]
        value = self.check(plan, looks, "ann", 6, True)
        self.assertEqual(value, ((7, 1), 0))
        self.check(plan, looks, "ann", 5, False)
        self.assertIs(paper_holds(plan, looks, "ann", 6, ((7, 0), 0)), False)
        self.assertIs(paper_holds(plan, looks, "ann", 6, ((6, 1), 0)), False)

    def test_days_are_in_the_order_of_people(self):
        plan = Plan([("zoe", 1, 0, (4, 9)), ("bob", 1, 0, None), ("ann", 1, 0, (0, 2))], [(3, "ann", "zoe")])
        looks = [(7, "zoe", True)]
        self.assertIs(paper_holds(plan, looks, "zoe", 7, ((8, 3), 0)), True)
        self.assertIs(paper_holds(plan, looks, "zoe", 7, ((3, 8), 0)), False)
        self.assertEqual(self.check(plan, looks, "zoe", 7, True), ((8, 3), 0))
        self.check(plan, looks, "zoe", 6, False)

    def test_spans_of_all_days(self):
        plan = Plan([("ann", 1, 0, (0, FAR)), ("bob", FAR, FAR, (0, FAR))], [(FAR, "ann", "bob")])
        looks = [(FAR - 5, "ann", True), (FAR - 7, "bob", False)]
        for name, day in (("ann", FAR - 5), ("bob", FAR)):
            value = self.check(plan, looks, name, day, True)
            self.assertEqual(value[1], 0)
            self.check(plan, looks, name, day - 1, False)
        self.assertIs(paper_holds(plan, looks, "ann", FAR - 5, ((FAR - 4, 0), 0)), True)
        self.assertIs(paper_holds(plan, looks, "ann", FAR - 5, ((FAR - 3, 0), 0)), False)
        self.assertIs(paper_holds(plan, looks, "ann", FAR - 5, ((FAR - 5, 0), 0)), False)
        self.assertIs(paper_holds(plan, [(FAR, "bob", True)], "bob", 0, ((0, 1), 0)), True)
        self.assertIs(paper_holds(plan, [(FAR, "bob", True)], "bob", 0, ((0, FAR + 1), 0)), False)
        self.assertIs(paper_holds(plan, [(FAR, "bob", True)], "bob", FAR, ((0, FAR + 1), 0)), True)
        self.assertIs(paper_holds(plan, [(FAR, "bob", True)], "bob", FAR, ((0, FAR + 2), 0)), False)

    def test_papers_end_at_since_surely(self):
        for plan, worlds, looks in tried_cases(40, seed=35):
            if not possible(plan, looks):
                continue
            for name in plan.names:
                last = since_surely(plan, looks, name)
                if last is None:
                    self.check(plan, looks, name, FAR, False)
                else:
                    self.check(plan, looks, name, last, True)
                    if last > 0:
                        self.check(plan, looks, name, last - 1, False)


class AnyValue(unittest.TestCase):
    def check_false(self, value):
        with self.subTest(value=value):
            for looks in (LOOKS, MORE, NONE_FITS, [], [(0, "dan", True)]):
                self.assertIs(paper_holds(example(), looks, "dan", 8, value), False)

    def test_any_values(self):
        for value in no_names():
            self.check_false(value)
            self.check_false((value, value))
            self.check_false((value, 0))
            self.check_false(((2, value, 5), 0))
            if not isinstance(value, int) or isinstance(value, bool):
                self.check_false(((value, 5), 0))
                self.check_false(((2, value), 0))
            if value != 0:
                self.check_false(((2, 5), value))
        for kind in (list, tuple):
            self.check_false(nested(kind, 0))
            self.check_false((nested(kind, 0), 0))

    def test_lists_for_tuples(self):
        self.check_false([(2, 5), 0])
        self.check_false(([2, 5], 0))
        self.check_false([[2, 5], 0])

    def test_other_numbers_of_things(self):
        for value in (((2, 5),), ((2, 5), 0, 0), (), ((2,), 0), ((2, 5, 5), 0), ((), 0), (2, 5), (2, 5, 0)):
            self.check_false(value)

    def test_bools_for_numbers(self):
        self.check_false(((2, 5), False))
        plan = Plan([("ann", 1, 0, (0, 9))])
        for looks in ([(0, "ann", True)], [(0, "ann", True), (0, "ann", True)]):
            self.assertIs(paper_holds(plan, looks, "ann", 0, ((1,), 0)), True)
            self.assertIs(paper_holds(plan, looks, "ann", 0, ((True,), 0)), False)
            self.assertIs(paper_holds(plan, looks, "ann", 0, ((1,), False)), False)
            self.assertIs(paper_holds(plan, looks, "ann", 0, ((1,), True)), False)
        self.assertIs(paper_holds(plan, looks, "ann", 0, ((1,), 1)), True)
        no_day = [(0, "ann", True), (0, "ann", False)]
        self.assertIs(paper_holds(plan, no_day, "ann", 0, ((1,), 0)), True)
        self.assertIs(paper_holds(plan, no_day, "ann", 0, ((True,), 0)), False)

    def test_a_bool_for_a_first_day(self):
        plan = Plan([("ann", 1, 0, (0, 9)), ("bob", 1, 0, (0, 0))])
        looks = [(0, "bob", True)]
        self.assertIs(paper_holds(plan, looks, "bob", 0, ((0, 1), 0)), True)
        self.assertIs(paper_holds(plan, looks, "bob", 0, ((False, 1), 0)), False)
        self.assertIs(paper_holds(plan, looks, "bob", 0, ((0, True), 0)), False)

    def test_numbers_of_no_look(self):
        for at in (1, 2, 3, -1, -2, FAR, -FAR):
            self.assertIs(paper_holds(example(), LOOKS, "dan", 8, ((2, 5), at)), False)
        self.assertIs(paper_holds(example(), LOOKS + LOOKS, "dan", 8, ((2, 5), 1)), True)
        self.assertIs(paper_holds(example(), LOOKS + LOOKS, "dan", 8, ((2, 5), -1)), False)
        self.assertIs(paper_holds(example(), LOOKS + LOOKS, "dan", 8, ((2, 5), 2)), False)

    def test_days_outside_of_what_the_form_lets(self):
        for days in ((-1, 5), (11, 5), (FAR, 5), (-FAR, 5), (2, 3), (2, 0), (2, 11), (2, FAR)):
            self.check_false((days, 0))
        # From the first day of the span to the last one plus 1; the one that is right is in the midst, then at the end.
        plan = Plan([("ann", 1, 0, (3, 6))])
        looks = [(5, "ann", True)]
        for day, is_right in ((2, False), (3, False), (5, False), (6, True), (7, False), (8, False)):
            self.assertIs(paper_holds(plan, looks, "ann", 5, ((day,), 0)), is_right)
        looks = [(9, "ann", True)]
        for day, is_right in ((2, False), (6, False), (7, True), (8, False), (FAR, False)):
            self.assertIs(paper_holds(plan, looks, "ann", 6, ((day,), 0)), is_right)


class Wrong(unittest.TestCase):
    def test_no_name_keeps_the_very_value(self):
        for value in no_names():
            for looks in (LOOKS, NONE_FITS, None, [None], [(9, "dan", 1)], value):
                for call in (
                    lambda: paper(example(), looks, value, 8),
                    lambda: paper_holds(example(), looks, value, 8, ((2, 5), 0)),
                    lambda: paper_holds(example(), looks, value, 8, value),
                ):
                    with self.assertRaises(NoName) as caught:
                        call()
                    self.assertIs(caught.exception.name, value)

    def test_wrong_looks(self):
        for looks, at in ((None, 0), ([None], 0), (NONE_FITS + ((9, "dan", 1),), 2), (LOOKS + ([9, "dan", True],), 1)):
            for call in (
                lambda: paper(example(), looks, "dan", 8),
                lambda: paper_holds(example(), looks, "dan", 8, ((2, 5), 0)),
                lambda: paper_holds(example(), looks, "dan", 8, None),
            ):
                with self.assertRaises(InvalidLooks) as caught:
                    call()
                self.assertEqual(caught.exception.at, at)


class Calls(unittest.TestCase):
    def test_arguments_by_name_in_another_order(self):
        plan = example()
        value = paper(day=8, name="dan", looks=LOOKS, plan=plan)
        self.assertIs(paper_holds(value=value, day=8, name="dan", looks=LOOKS, plan=plan), True)
        self.assertIs(paper_holds(plan, LOOKS, value=((2, 5), 0), day=7, name="dan"), False)
        self.assertIsNone(paper(plan, day=7, name="dan", looks=LOOKS))

    def test_lists_and_tuples_are_looks(self):
        for looks in (list(MORE), tuple(MORE)):
            self.assertEqual(paper(example(), looks, "dan", 6), paper(example(), MORE, "dan", 6))
            self.assertIs(paper_holds(example(), looks, "cyd", 4, ((4, 5), 0)), True)

    def test_the_same_call_twice_with_others_between_and_nothing_changes(self):
        plan = example()
        looks = [(9, "dan", True), (6, "ann", False)]
        told = paper(plan, looks, "dan", 6)
        for others in (LOOKS, (), MORE):
            paper(plan, others, "ann", 8)
            paper_holds(plan, NONE_FITS, "ann", 8, told)
            self.assertEqual(paper(plan, looks, "dan", 6), told)
            self.assertIs(paper_holds(plan, looks, "dan", 6, told), True)
        self.assertEqual(looks, [(9, "dan", True), (6, "ann", False)])
        self.assertEqual(plan, example())

    def test_a_value_stays_as_it_was(self):
        value = ([2, 5], [0, (1,)])
        self.assertIs(paper_holds(example(), LOOKS, "dan", 8, value), False)
        self.assertEqual(value, ([2, 5], [0, (1,)]))

    def test_what_is_returned_is_tuples(self):
        value = paper(example(), list(LOOKS), "dan", 8)
        self.assertIsInstance(value, tuple)
        self.assertIsInstance(value[0], tuple)
        self.assertEqual(len(value), 2)


if __name__ == "__main__":
    unittest.main()
