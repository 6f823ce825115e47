"""[17] further looks, held against all worlds tried one by one."""

import random
import unittest

from firstbore.asking import results, settling
from firstbore.errors import InvalidLooks, NoName, NoWorld
from firstbore.plans import Plan
from samples import (
    FAR, LOOKS, MORE, NAMES, NONE_FITS, all_worlds, example, fitting_days, moved, no_names, telling_cases,
    telling_worlds, tried_cases, wide_case,
)


def is_since(plan, starts, name, day):
    """Tell whether a person bears it by a day, which may be one ahead of all days."""
    start = starts[plan.names.index(name)]
    return start is not None and start <= day


def show_of(plan, name):
    """Return after how many days somebody shows it."""
    return plan.people[plan.names.index(name)][2]


def expected_results(plan, fitting, name, day):
    """Return what the words of [17] make of all worlds that fit."""
    return tuple(sorted({is_since(plan, starts, name, day - show_of(plan, name)) for world, starts in fitting}))


def expected_settling(plan, fitting, name, day, days):
    """Return what the words of [17] make of all worlds that fit."""
    pairs = []
    for asked in sorted(set(days)):
        for other in sorted(plan.names):
            told = {True: set(), False: set()}
            for world, starts in fitting:
                result = is_since(plan, starts, other, asked - show_of(plan, other))
                told[result].add(is_since(plan, starts, name, day))
            if len(told[True]) < 2 and len(told[False]) < 2:
                pairs.append((asked, other))
    return tuple(pairs)


class Tried(unittest.TestCase):
    def check(self, plan, looks, worlds, asked, days):
        """Hold both functions against worlds for these days; return what they tell."""
        fitting = fitting_days(plan, worlds, looks)
        told = []
        with self.subTest(plan=str(plan), looks=looks):
            for name in plan.names:
                for day in asked:
                    if not fitting:
                        self.assertRaises(NoWorld, results, plan, looks, name, day)
                        self.assertRaises(NoWorld, settling, plan, looks, name, day, days)
                        continue
                    pair = results(plan, looks, name, day), settling(plan, looks, name, day, days)
                    self.assertEqual(pair[0], expected_results(plan, fitting, name, day))
                    self.assertEqual(pair[1], expected_settling(plan, fitting, name, day, days))
                    told.append(pair)
        return told

    def test_small_plans(self):
        rng = random.Random(81)
        kinds = {(False,): 0, (True,): 0, (False, True): 0, "settling": 0, "settled": 0, "not": 0}
        for plan, worlds, looks in tried_cases(40, seed=82) + telling_cases(100, seed=83):
            days = [rng.randint(0, 12) for number in range(rng.randint(1, 3))]
            for pair in self.check(plan, looks, worlds, [rng.randint(0, 9), rng.randint(2, 12)], days):
                many = len(set(days)) * len(plan.people)
                kinds[pair[0]] += 1
                kinds["settling"] += 0 < len(pair[1]) < many
                kinds["settled"] += len(pair[1]) == many
                kinds["not"] += pair[1] == ()
        # Else this test would tell little.
        self.assertGreater(min(kinds.values()), 40, kinds)

    def test_spans_of_very_many_days(self):
        rng = random.Random(84)
        for number in range(50):
            plan, looks, days = wide_case(rng)
            worlds = telling_worlds(plan, looks, days)
            self.check(plan, looks, worlds, days, days)

    def test_days_moved_far(self):
        by = 10**17
        for plan, worlds, looks in telling_cases(30, seed=85):
            if fitting_days(plan, worlds, looks):
                far_plan, far_looks = moved(plan, looks, by)
                for name in plan.names:
                    self.assertEqual(results(far_plan, far_looks, name, 6 + by), results(plan, looks, name, 6))
                    near = settling(plan, looks, name, 5, [4, 8])
                    far = settling(far_plan, far_looks, name, 5 + by, [4 + by, 8 + by])
                    self.assertEqual(far, tuple((day + by, other) for day, other in near))


class Example(unittest.TestCase):
    def test_example(self):
        plan, looks = example(), list(LOOKS)
        self.assertEqual((results(plan, looks, "bob", 5), results(plan, looks, "cyd", 5)), ((False, True), (False,)))
        self.assertEqual(settling(plan, looks, "bob", 3, [4, 5]), ((4, "ann"), (4, "bob"), (5, "bob")))

    def test_all_worlds_of_the_example(self):
        tried = Tried()
        for looks in ((), LOOKS, MORE, NONE_FITS):
            tried.check(example(), looks, all_worlds(example()), range(0, 13, 3), [9, 2, 6, 4])


class Results(unittest.TestCase):
    def test_around_the_days(self):
        # dan bears it since 6 to 8, and shows it at once.
        told = [results(example(), LOOKS, "dan", day) for day in (5, 6, 7, 8, 9, FAR)]
        self.assertEqual(told, [(False,), (False, True), (False, True), (True,), (True,), (True,)])
        # cyd bears it since 4 to 6 at the latest if ann does not show it on day 6, and shows it after two days.
        told = [results(example(), MORE, "cyd", day) for day in (5, 6, 7, FAR)]
        self.assertEqual(told, [(False,), (True,), (True,), (True,)])

    def test_a_day_of_a_look_itself(self):
        self.assertEqual(results(example(), MORE, "dan", 9), (True,))
        self.assertEqual(results(example(), MORE, "ann", 6), (False,))
        self.assertEqual(results(example(), MORE, "ann", 7), (False, True))

    def test_no_looks_and_nobody_with_a_span(self):
        self.assertEqual(results(example(), [], "dan", 9), (False, True))
        self.assertEqual(results(example(), (), "dan", 5), (False,))
        plan = Plan([("ann", 1, 0, None), ("bob", 1, 0, None)], [(3, "ann", "bob")])
        self.assertEqual(results(plan, [], "bob", FAR), (False,))

    def test_ahead_of_what_it_takes_to_show_it(self):
        plan = Plan([("ann", 1, FAR, (0, 0))])
        self.assertEqual(results(plan, [], "ann", FAR - 1), (False,))
        self.assertEqual(results(plan, [], "ann", FAR), (False, True))
        self.assertEqual(results(plan, [(FAR, "ann", True)], "ann", FAR), (True,))


class Settling(unittest.TestCase):
    def test_a_day_twice_and_in_any_order(self):
        pairs = ((4, "ann"), (4, "bob"), (5, "bob"))
        for days in ([4, 5], (5, 4), [5, 4, 5], (4, 4, 5, 5)):
            self.assertEqual(settling(example(), LOOKS, "bob", 3, days), pairs)

    def test_no_days(self):
        for days in ([], ()):
            self.assertEqual(settling(example(), LOOKS, "bob", 3, days), ())

    def test_what_is_settled_anyway(self):
        all_pairs = tuple((day, name) for day in (0, FAR) for name in NAMES)
        # dan surely bears it by day 8, and surely not by day 5.
        for day in (5, 0, 8, FAR):
            self.assertEqual(settling(example(), LOOKS, "dan", day, [FAR, 0]), all_pairs)
        plan = Plan([("ann", 1, 0, None), ("bob", 1, 0, None)], [(3, "ann", "bob")])
        self.assertEqual(settling(plan, [], "bob", 9, [7]), ((7, "ann"), (7, "bob")))

    def test_who_can_be_asked_is_ascending_whatever_the_order_of_people(self):
        plan = Plan([("zoe", 1, 0, None), ("bob", 1, 0, None), ("ann", 1, 0, None)])
        self.assertEqual(settling(plan, [], "bob", 9, [1, 0]), tuple((day, n) for day in (0, 1) for n in ("ann", "bob", "zoe")))

    def test_only_one_of_the_results_settles(self):
        # If bob shows it on day 4, ann bears it by 3; if not, ann may still begin later.
        plan = Plan([("ann", 1, 5, (0, 9)), ("bob", 1, 0, None)], [(4, "ann", "bob"), (7, "ann", "bob")])
        self.assertEqual(settling(plan, [], "ann", 3, [4, 7]), ((4, "bob"),))
        self.assertEqual(settling(plan, [], "ann", 4, [4, 7]), ())
        self.assertEqual(settling(plan, [], "ann", 6, [4, 7]), ((7, "bob"),))
        # A look at ann on the fifth day behind settles it, too.
        self.assertEqual(settling(plan, [], "ann", 4, [8, 9, 10]), ((9, "ann"),))

    def test_the_last_days_there_are(self):
        plan = Plan([("ann", FAR, FAR, (0, FAR)), ("bob", 1, 0, None)], [(FAR, "ann", "bob")])
        self.assertEqual(settling(plan, [], "ann", 0, [FAR, FAR - 1, 2 * FAR]), ((FAR, "ann"), (FAR, "bob"), (2 * FAR, "bob")))
        self.assertEqual(settling(plan, [], "ann", FAR, [FAR]), ())
        self.assertEqual(settling(plan, [], "ann", FAR, [2 * FAR]), ((2 * FAR, "ann"),))
        self.assertEqual(settling(plan, [], "bob", FAR, [FAR]), ((FAR, "ann"), (FAR, "bob")))

    def test_eight_people_ten_looks_and_four_days(self):
        names = "hgfedcba"
        people = [(name, 1, 0, (0, FAR)) for name in names]
        plan = Plan(people, [(at + 3, names[at % 8], names[(at + 1) % 8]) for at in range(16)])
        looks = [(30, name, True) for name in names] + [(0, "a", False), (1, "b", False)]
        pairs = settling(plan, looks, "c", 9, [9, 8, 10, 30])
        self.assertIn((9, "c"), pairs)
        self.assertNotIn((8, "c"), pairs)
        self.assertEqual(pairs, tuple(sorted(set(pairs))))


class Wrong(unittest.TestCase):
    def test_no_name_ahead_of_all(self):
        for value in no_names():
            for looks in (LOOKS, NONE_FITS, None, [None], value):
                for call in (
                    lambda: results(example(), looks, value, 5),
                    lambda: settling(example(), looks, value, 5, [4, 5]),
                    lambda: settling(example(), looks, value, 5, []),
                ):
                    with self.assertRaises(NoName) as caught:
                        call()
                    self.assertIs(caught.exception.name, value)

    def test_wrong_looks_ahead_of_no_world(self):
        for looks, at in ((None, 0), ("x", 0), ([None], 0), (NONE_FITS + ((9, "dan", 1),), 2), (NONE_FITS + ("",), 2)):
            for days in ([], [4]):
                for call in (
                    lambda: results(example(), looks, "bob", 5),
                    lambda: settling(example(), looks, "bob", 5, days),
                ):
                    with self.assertRaises(InvalidLooks) as caught:
                        call()
                    self.assertEqual(caught.exception.at, at)

    def test_no_world(self):
        for name in NAMES:
            self.assertRaises(NoWorld, results, example(), NONE_FITS, name, 5)
            self.assertRaises(NoWorld, settling, example(), NONE_FITS, name, 5, [4])
            self.assertRaises(NoWorld, settling, example(), NONE_FITS, name, 5, [])


class Calls(unittest.TestCase):
    def test_arguments_by_name_in_another_order(self):
        self.assertEqual(results(day=5, name="bob", looks=LOOKS, plan=example()), (False, True))
        told = settling(days=[4, 5], day=3, name="bob", looks=LOOKS, plan=example())
        self.assertEqual(told, ((4, "ann"), (4, "bob"), (5, "bob")))

    def test_the_same_call_twice_and_nothing_changes(self):
        plan, looks, days = example(), [(9, "dan", True)], [5, 4, 5]
        for others in (MORE, (), LOOKS):
            results(plan, others, "cyd", 8)
            settling(plan, others, "cyd", 8, (1, 2))
            self.assertEqual(results(plan, looks, "bob", 5), (False, True))
            self.assertEqual(settling(plan, looks, "bob", 3, days), ((4, "ann"), (4, "bob"), (5, "bob")))
        self.assertEqual((plan, looks, days), (example(), [(9, "dan", True)], [5, 4, 5]))

    def test_what_is_returned_is_tuples(self):
        told = results(example(), list(LOOKS), "bob", 5)
        pairs = settling(example(), list(LOOKS), "bob", 3, [4, 5])
        for value in (told, pairs) + pairs:
            self.assertIsInstance(value, tuple)
        for value in told:
            self.assertIsInstance(value, bool)


if __name__ == "__main__":
    unittest.main()
