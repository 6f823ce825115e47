"""[13] least lots of first ones, held against all worlds tried one by one."""

import random
import unittest

from firstbore.errors import InvalidLooks, NoWorld
from firstbore.origins import fewest, least_lots
from firstbore.plans import Plan
from samples import (
    FAR, LOOKS, MORE, NONE_FITS, all_worlds, eight_people, example, fitting_days, moved, no_names, no_sequences,
    telling_cases, telling_worlds, tried_cases, tried_looks, wide_case,
)


def expected_least_lots(fitting):
    """Return what the words of [13] make of all worlds that fit."""
    lots = {tuple(sorted(name for name, day in world)) for world, starts in fitting}
    least = [lot for lot in lots if not any(set(other) < set(lot) for other in lots)]
    return tuple(sorted(least, key=lambda lot: (len(lot), lot)))


def crowded_case(rng):
    """Return a plan of which each can be a first one, its worlds, and looks of which most show something."""
    names = ["fay", "ann", "eve", "bob", "dan", "cyd"]
    rng.shuffle(names)
    people = []
    for name in names:
        first = rng.randint(0, 5)
        people.append((name, rng.randint(1, 2), rng.randint(0, 2), (first, first)))
    plan = Plan(people, [(rng.randint(2, 9), *rng.sample(names, 2)) for number in range(8)])
    looks = [(rng.randint(6, 12), name, True) for name in rng.sample(names, rng.randint(2, 4))]
    looks = looks + [(rng.randint(0, 4), rng.choice(names), False) for number in range(rng.choice([0, 0, 1]))]
    return plan, all_worlds(plan), looks


class Tried(unittest.TestCase):
    def check(self, plan, looks, worlds):
        fitting = fitting_days(plan, worlds, looks)
        with self.subTest(plan=str(plan), looks=looks):
            if not fitting:
                self.assertRaises(NoWorld, least_lots, plan, looks)
                self.assertRaises(NoWorld, fewest, plan, looks)
                return ()
            lots = expected_least_lots(fitting)
            self.assertEqual(least_lots(plan, looks), lots)
            self.assertEqual(fewest(plan, looks), min(len({name for name, day in world}) for world, days in fitting))
            return lots

    def cases(self):
        rng = random.Random(46)
        return tried_cases(60, seed=41) + telling_cases(150, seed=45) + [crowded_case(rng) for number in range(150)]

    def test_small_plans(self):
        kinds = {"none": 0, "nobody": 0, "one": 0, "several lots": 0, "lots of several": 0, "unlike lengths": 0}
        for plan, worlds, looks in self.cases():
            lots = self.check(plan, looks, worlds)
            kinds["none"] += lots == ()
            kinds["nobody"] += lots == ((),)
            kinds["one"] += [len(lot) for lot in lots] == [1]
            kinds["several lots"] += len(lots) > 1
            kinds["lots of several"] += any(len(lot) > 1 for lot in lots)
            kinds["unlike lengths"] += len({len(lot) for lot in lots}) > 1
        # Else this test would tell little.
        self.assertGreater(min(kinds.values()), 5, kinds)

    def test_eight_people_and_sixteen_meetings(self):
        rng = random.Random(42)
        for number in range(4):
            plan, worlds = eight_people(rng)
            self.check(plan, tried_looks(rng, plan, worlds), worlds)

    def test_spans_of_very_many_days(self):
        rng = random.Random(43)
        for number in range(60):
            plan, looks, days = wide_case(rng)
            self.check(plan, looks, telling_worlds(plan, looks, days))

    def test_days_moved_far(self):
        for plan, worlds, looks in tried_cases(40, seed=44):
            if fitting_days(plan, worlds, looks):
                self.assertEqual(least_lots(*moved(plan, looks, 10**17)), least_lots(plan, looks))


class Example(unittest.TestCase):
    def test_example(self):
        self.assertEqual(least_lots(example(), list(LOOKS)), (("ann",), ("cyd",)))
        self.assertEqual(least_lots(example(), MORE), (("cyd",),))
        self.assertEqual((fewest(example(), LOOKS), fewest(example(), MORE)), (1, 1))

    def test_all_worlds_of_the_example(self):
        tried = Tried()
        for looks in ((), LOOKS, MORE, NONE_FITS):
            tried.check(example(), looks, all_worlds(example()))


class Edges(unittest.TestCase):
    def test_nobody_where_no_look_shows_something(self):
        for looks in ([], (), [(9, "dan", False)], [(0, "ann", False), (FAR, "cyd", False)]):
            self.assertEqual(least_lots(example(), looks), ((),))
            self.assertEqual(fewest(example(), looks), 0)

    def test_nobody_with_a_span(self):
        plan = Plan([("ann", 1, 0, None), ("bob", 1, 0, None)], [(3, "ann", "bob")])
        self.assertEqual((least_lots(plan, []), fewest(plan, [])), (((),), 0))
        self.assertEqual(least_lots(plan, [(9, "bob", False)]), ((),))
        self.assertRaises(NoWorld, least_lots, plan, [(9, "bob", True)])

    def test_no_meetings(self):
        plan = Plan([("zoe", 1, 0, (0, 9)), ("ann", 1, 0, (0, 9)), ("bob", 1, 0, None)])
        self.assertEqual(least_lots(plan, [(9, "zoe", True)]), (("zoe",),))
        self.assertEqual(least_lots(plan, [(9, "zoe", True), (9, "ann", True)]), (("ann", "zoe"),))
        self.assertEqual(fewest(plan, [(9, "zoe", True), (9, "ann", True)]), 2)
        self.assertRaises(NoWorld, fewest, plan, [(9, "bob", True)])

    def test_shorter_ones_first_then_ascending(self):
        # zoe brings it to both, the others to one each.
        people = [(name, 1, 0, (0, 9)) for name in ("zoe", "bob", "ann", "cyd")] + [("x", 1, 0, None), ("y", 1, 0, None)]
        meetings = [(4, "zoe", "x"), (5, "zoe", "y"), (4, "bob", "x"), (5, "ann", "y"), (4, "cyd", "x")]
        plan = Plan(people, meetings)
        looks = [(4, "x", True), (5, "y", True)]
        self.assertEqual(least_lots(plan, looks), (("zoe",), ("ann", "bob"), ("ann", "cyd")))
        self.assertEqual(fewest(plan, looks), 1)
        looks = looks + [(8, "zoe", False)]
        self.assertEqual(least_lots(plan, looks), (("ann", "bob"), ("ann", "cyd")))
        self.assertEqual(fewest(plan, looks), 2)

    def test_meetings_of_one_day(self):
        people = [(name, 1, 0, (0, 9)) for name in ("ann", "bob", "cyd")]
        plan = Plan(people, [(4, "ann", "bob"), (4, "bob", "cyd")])
        # On this day it does not come from ann by bob to cyd.
        self.assertEqual(least_lots(plan, [(4, "cyd", True)]), (("bob",), ("cyd",)))
        self.assertEqual(least_lots(plan, [(4, "cyd", True), (4, "ann", True)]), (("bob",), ("ann", "cyd")))

    def test_a_look_that_shows_nothing_bars_some(self):
        people = [("ann", 1, 0, (0, 3)), ("bob", 1, 0, (0, 9)), ("cyd", 1, 0, None)]
        plan = Plan(people, [(4, "ann", "cyd"), (7, "bob", "cyd")])
        self.assertEqual(least_lots(plan, [(7, "cyd", True)]), (("ann",), ("bob",)))
        self.assertEqual(least_lots(plan, [(7, "cyd", True), (4, "cyd", False)]), (("bob",),))
        self.assertEqual(least_lots(plan, [(7, "cyd", True), (6, "bob", False)]), (("ann",),))
        self.assertRaises(NoWorld, least_lots, plan, [(7, "cyd", True), (6, "bob", False), (3, "ann", False)])

    def test_the_last_days_there_are(self):
        plan = Plan([("ann", FAR, 0, (0, FAR)), ("bob", 1, FAR, (0, FAR))], [(FAR, "ann", "bob")])
        self.assertEqual(least_lots(plan, [(FAR, "ann", True)]), (("ann",), ("bob",)))
        self.assertEqual(least_lots(plan, [(FAR - 1, "ann", True)]), (("ann",),))
        self.assertEqual(least_lots(plan, [(2 * FAR, "bob", True)]), (("ann",), ("bob",)))
        self.assertEqual(least_lots(plan, [(2 * FAR - 1, "bob", True)]), (("bob",),))

    def test_as_many_lots_as_there_can_be(self):
        # Two people for each of four looks: sixteen lots of four.
        names = ["a", "b", "c", "d", "e", "f", "g", "h"]
        plan = Plan([(name, 1, 0, (0, 9)) for name in names], [(5, x, y) for x, y in zip(names[::2], names[1::2])])
        lots = least_lots(plan, [(9, name, True) for name in names[::2]])
        self.assertEqual(len(lots), 16)
        self.assertEqual((lots[0], lots[-1]), (("a", "c", "e", "g"), ("b", "d", "f", "h")))
        self.assertEqual(list(lots), sorted(lots))
        self.assertEqual(fewest(plan, [(9, name, True) for name in names]), 4)


class Wrong(unittest.TestCase):
    def test_wrong_looks_ahead_of_no_world(self):
        rows = [(value, 0) for value in no_sequences()] + [([value], 0) for value in no_names()]
        for looks, at in rows + [(NONE_FITS + (None,), 2), (LOOKS + ((9, "dan", 1),), 1), (NONE_FITS + ((9, "eve", True),), 2)]:
            for call in (least_lots, fewest):
                with self.assertRaises(InvalidLooks) as caught:
                    call(example(), looks)
                self.assertEqual(caught.exception.at, at)

    def test_no_world(self):
        for call in (least_lots, fewest):
            self.assertRaises(NoWorld, call, example(), NONE_FITS)


class Calls(unittest.TestCase):
    def test_arguments_by_name_in_another_order(self):
        self.assertEqual(least_lots(looks=MORE, plan=example()), (("cyd",),))
        self.assertEqual(fewest(looks=MORE, plan=example()), 1)

    def test_the_same_call_twice_and_nothing_changes(self):
        plan = example()
        looks = [(9, "dan", True), (6, "ann", False)]
        for others in (LOOKS, (), MORE):
            least_lots(plan, others)
            self.assertEqual(least_lots(plan, looks), (("cyd",),))
            self.assertEqual(least_lots(plan, tuple(looks)), (("cyd",),))
        self.assertEqual(looks, [(9, "dan", True), (6, "ann", False)])
        self.assertEqual(plan, example())

    def test_what_is_returned_is_tuples(self):
        for looks in (LOOKS, []):
            lots = least_lots(example(), looks)
            for value in (lots,) + lots:
                self.assertIsInstance(value, tuple)
        self.assertIsInstance(fewest(example(), LOOKS), int)


if __name__ == "__main__":
    unittest.main()
