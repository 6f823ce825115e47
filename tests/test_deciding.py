"""[10], [11] what follows for all worlds that fit, held against all worlds tried one by one."""

import random
import unittest

from firstbore.deciding import first_ones, greatest, possible, since_possibly, since_surely, status
from firstbore.errors import InvalidLooks, NoName, NoWorld
from firstbore.looks import fits
from firstbore.plans import Plan
from samples import (
    FAR, LOOKS, MORE, NAMES, NONE_FITS, all_worlds, example, expected_since, fitting_days, moved, no_names, random_plan,
    telling_worlds, tried_cases, tried_looks, wide_case,
)

MOVE = 10**17


def expected_greatest(fitting):
    """Return what the words of [10] make of all worlds that fit."""
    days = {}
    for world, starts in fitting:
        for name, day in world:
            days[name] = min(day, days.get(name, day))
    return tuple(sorted(days.items()))


def expected_since_possibly(fitting, place):
    """Return what the words of [10] make of all worlds that fit."""
    return min((starts[place] for world, starts in fitting if starts[place] is not None), default=None)


def expected_since_surely(fitting, place):
    """Return what the words of [10] make of all worlds that fit."""
    days = [starts[place] for world, starts in fitting]
    return None if None in days else max(days)


def expected_status(plan, fitting, place, day):
    """Return what the words of [10] make of all worlds that fit."""
    wait = plan.people[place][1]
    told = [starts[place] is not None and starts[place] + wait <= day for world, starts in fitting]
    return "able" if all(told) else "open" if any(told) else "not"


def expected_first_ones(fitting):
    """Return what the words of [10] make of all worlds that fit."""
    lots = [{name for name, day in world} for world, starts in fitting]
    return tuple(sorted(set.intersection(*lots))), tuple(sorted(set.union(*lots)))


def calls_of(plan, looks, name="ann", day=3):
    """Return calls of all functions of the module but `possible`."""
    return [
        lambda: greatest(plan, looks),
        lambda: since_possibly(plan, looks, name),
        lambda: since_surely(plan, looks, name),
        lambda: status(plan, looks, name, day),
        lambda: first_ones(plan, looks),
    ]


class Tried(unittest.TestCase):
    def check(self, plan, looks, worlds, days):
        """Hold all functions against all worlds, or against as many as can make a difference."""
        fitting = fitting_days(plan, worlds, looks)
        with self.subTest(plan=str(plan), looks=looks):
            self.assertIs(possible(plan, looks), len(fitting) > 0)
            if not fitting:
                for call in calls_of(plan, looks, plan.names[0]):
                    self.assertRaises(NoWorld, call)
                return
            self.assertEqual(greatest(plan, looks), expected_greatest(fitting))
            self.assertIs(fits(plan, looks, greatest(plan, looks)), True)
            self.assertEqual(first_ones(plan, looks), expected_first_ones(fitting))
            for place, name in enumerate(plan.names):
                self.assertEqual(since_possibly(plan, looks, name), expected_since_possibly(fitting, place))
                self.assertEqual(since_surely(plan, looks, name), expected_since_surely(fitting, place))
                for day in days:
                    self.assertEqual(status(plan, looks, name, day), expected_status(plan, fitting, place, day))

    def test_small_plans(self):
        for plan, worlds, looks in tried_cases(150, seed=21):
            self.check(plan, looks, worlds, range(0, 17))

    def test_tried_cases_are_of_all_kinds(self):
        # Else the tests that use them would tell little.
        kinds = {"none fits": 0, "surely": 0, "possibly only": 0, "always first": 0, "some first": 0, "never": 0}
        for plan, worlds, looks in tried_cases(150, seed=21):
            fitting = fitting_days(plan, worlds, looks)
            if not fitting:
                kinds["none fits"] += 1
                continue
            always, some = expected_first_ones(fitting)
            kinds["always first"] += len(always) > 0
            kinds["some first"] += len(some) > len(always)
            for place in range(len(plan.people)):
                first, last = expected_since_possibly(fitting, place), expected_since_surely(fitting, place)
                kinds["surely"] += last is not None
                kinds["possibly only"] += first is not None and last is None
                kinds["never"] += first is None
        self.assertGreater(min(kinds.values()), 25, kinds)

    def test_days_moved_far(self):
        for plan, worlds, looks in tried_cases(60, seed=22):
            far_plan, far_looks = moved(plan, looks, MOVE)
            far_worlds = [[(name, day + MOVE) for name, day in world] for world in worlds]
            self.check(far_plan, far_looks, far_worlds, range(MOVE, MOVE + 17, 3))

    def test_spans_of_very_many_days(self):
        # Whether something becomes so can only change at some days, so the worlds of these tell of all others.
        rng = random.Random(23)
        for number in range(60):
            plan, looks, days = wide_case(rng)
            self.check(plan, looks, telling_worlds(plan, looks, days), days)


class Example(unittest.TestCase):
    def test_example(self):
        plan = example()
        looks = list(LOOKS)
        self.assertEqual(greatest(plan, looks), (("ann", 0), ("cyd", 4)))
        self.assertEqual((since_possibly(plan, looks, "dan"), since_surely(plan, looks, "dan")), (6, 8))
        self.assertEqual(first_ones(plan, looks), ((), ("ann", "cyd")))
        self.assertEqual(greatest(plan, MORE), (("ann", 4), ("cyd", 4)))
        self.assertEqual(since_surely(plan, MORE, "dan"), 6)
        self.assertEqual(first_ones(plan, MORE), (("cyd",), ("ann", "cyd")))
        self.assertEqual(status(plan, MORE, "cyd", 5), "not")

    def test_all_worlds_of_the_example(self):
        tried = Tried()
        for looks in ((), LOOKS, MORE, NONE_FITS):
            tried.check(example(), looks, all_worlds(example()), range(0, 14))


class Edges(unittest.TestCase):
    def test_no_looks_at_all(self):
        plan = example()
        for looks in ([], ()):
            self.assertIs(possible(plan, looks), True)
            self.assertEqual(greatest(plan, looks), (("ann", 0), ("cyd", 4)))
            self.assertEqual([since_possibly(plan, looks, name) for name in NAMES], [0, 3, 4, 6])
            self.assertEqual([since_surely(plan, looks, name) for name in NAMES], [None] * 4)
            self.assertEqual([status(plan, looks, "dan", day) for day in (6, 7, FAR)], ["not", "open", "open"])
            self.assertEqual(first_ones(plan, looks), ((), ("ann", "cyd")))

    def test_looks_that_show_nothing_alone(self):
        plan = example()
        # Without ann ahead of day 2, bob does not bear it at day 3; cyd since 4 is not shown on day 5.
        looks = [(7, "bob", False), (5, "cyd", False)]
        self.assertEqual(greatest(plan, looks), (("ann", 2), ("cyd", 4)))
        self.assertEqual([since_possibly(plan, looks, name) for name in NAMES], [2, 8, 4, 6])
        self.assertEqual([since_surely(plan, looks, name) for name in NAMES], [None] * 4)
        self.assertEqual(first_ones(plan, looks), ((), ("ann", "cyd")))
        self.assertIs(possible(plan, [(FAR, name, False) for name in NAMES]), True)

    def test_looks_that_no_world_fits(self):
        plan = example()
        for looks in (
            NONE_FITS,
            [(2, "ann", True)],
            [(2, "bob", True)],
            [(9, "dan", True), (6, "ann", False), (9, "cyd", False)],
            [(8, "dan", False), (FAR, "bob", True)],
            [(12, "ann", False), (12, "cyd", False), (12, "dan", True)],
        ):
            self.assertIs(possible(plan, looks), False)
            for call in calls_of(plan, looks):
                self.assertRaises(NoWorld, call)

    def test_somebody_who_can_never_bear_it(self):
        plan = Plan([("ann", 2, 0, (3, 9)), ("bob", 1, 0, None), ("cyd", 1, 0, None)], [(4, "ann", "bob")])
        for looks in ([], [(9, "ann", True)], [(FAR, "bob", False), (FAR, "cyd", False)]):
            for name in ("bob", "cyd"):
                self.assertIsNone(since_possibly(plan, looks, name))
                self.assertIsNone(since_surely(plan, looks, name))
                self.assertEqual(status(plan, looks, name, FAR), "not")
        self.assertIs(possible(plan, [(FAR, "bob", True)]), False)

    def test_nobody_has_a_span(self):
        plan = Plan([("ann", 1, 0, None), ("bob", 1, 0, None)], [(4, "ann", "bob")])
        for looks in ([], [(FAR, "ann", False)]):
            self.assertIs(possible(plan, looks), True)
            self.assertEqual(greatest(plan, looks), ())
            self.assertEqual(first_ones(plan, looks), ((), ()))
            self.assertIsNone(since_surely(plan, looks, "ann"))
        self.assertIs(possible(plan, [(FAR, "ann", True)]), False)

    def test_plan_without_meetings(self):
        plan = Plan([("ann", 1, 2, None), ("bob", 3, 2, (5, 7))])
        self.assertIsNone(since_surely(plan, [], "ann"))
        self.assertEqual(since_surely(plan, [(8, "bob", True)], "bob"), 6)
        self.assertEqual(since_surely(plan, [(20, "bob", True)], "bob"), 7)
        self.assertEqual([status(plan, [(8, "bob", True)], "bob", day) for day in (7, 8, 9)], ["not", "open", "able"])
        self.assertIsNone(since_surely(Plan([("ann", 1, 0, None)]), [], "ann"))

    def test_looks_that_bar_all_days_of_a_span(self):
        plan = Plan([("ann", 1, 2, (3, 6)), ("bob", 1, 0, (0, 9))], [(7, "ann", "bob")])
        self.assertEqual(greatest(plan, [(7, "ann", False)]), (("ann", 6), ("bob", 0)))
        self.assertEqual(greatest(plan, [(8, "ann", False)]), (("bob", 0),))
        self.assertEqual(first_ones(plan, [(8, "ann", False)]), ((), ("bob",)))
        # ann can still get it from bob on day 7, and then shows it since day 9.
        self.assertEqual(since_possibly(plan, [(8, "ann", False)], "ann"), 7)
        self.assertEqual(first_ones(plan, [(8, "ann", False), (9, "ann", True)]), (("bob",), ("bob",)))
        # But not any more if this is barred, too.
        self.assertEqual(greatest(plan, [(9, "ann", False)]), (("bob", 7),))
        self.assertIsNone(since_possibly(plan, [(9, "ann", False)], "ann"))
        self.assertIs(possible(plan, [(9, "ann", False), (FAR, "ann", True)]), False)
        # ann on any day of the span brings it to bob by day 7, but bob since 8 or 9 is not barred.
        self.assertEqual(greatest(plan, [(7, "bob", False)]), (("bob", 8),))

    def test_several_people_with_looks_of_one_day(self):
        people = [(name, 1, 0, (0, 9)) for name in ("ann", "bob", "cyd")]
        plan = Plan(people, [(4, "ann", "bob"), (4, "bob", "cyd")])
        looks = [(5, "ann", True), (5, "bob", False), (5, "cyd", True)]
        self.assertEqual(greatest(plan, looks), (("ann", 4), ("bob", 6), ("cyd", 4)))
        self.assertEqual([since_surely(plan, looks, name) for name in ("ann", "bob", "cyd")], [5, None, 5])
        self.assertEqual(first_ones(plan, looks), (("ann", "cyd"), ("ann", "bob", "cyd")))
        looks = [(4, "ann", False), (4, "bob", True), (4, "cyd", False)]
        self.assertEqual(greatest(plan, looks), (("ann", 5), ("bob", 4), ("cyd", 5)))
        self.assertEqual(first_ones(plan, looks), (("bob",), ("ann", "bob", "cyd")))

    def test_a_look_that_shows_something_asks_for_one_of_those_left(self):
        people = [("ann", 1, 0, (0, 9)), ("bob", 1, 0, (0, 9)), ("cyd", 1, 0, None)]
        plan = Plan(people, [(5, "ann", "cyd"), (6, "bob", "cyd")])
        looks = [(6, "cyd", True)]
        self.assertEqual((since_possibly(plan, looks, "cyd"), since_surely(plan, looks, "cyd")), (5, 6))
        self.assertEqual(first_ones(plan, looks), ((), ("ann", "bob")))
        looks = looks + [(4, "ann", False)]
        self.assertEqual(first_ones(plan, looks), (("bob",), ("ann", "bob")))
        self.assertEqual((since_possibly(plan, looks, "cyd"), since_surely(plan, looks, "cyd")), (6, 6))
        self.assertEqual((since_possibly(plan, looks, "bob"), since_surely(plan, looks, "bob")), (0, 5))

    def test_lots_and_worlds_are_ascending(self):
        people = [(name, 1, 0, (0, 9)) for name in ("zoe", "b", "cyd", "ab")]
        looks = [(3, "zoe", True), (4, "b", True), (5, "ab", False)]
        plan = Plan(people)
        self.assertEqual(greatest(plan, looks), (("ab", 6), ("b", 0), ("cyd", 0), ("zoe", 0)))
        self.assertEqual(first_ones(plan, looks), (("b", "zoe"), ("ab", "b", "cyd", "zoe")))

    def test_status_on_days_around(self):
        plan = example()
        # dan bears it since 6, 8 at the latest, and is able a day later.
        self.assertEqual([status(plan, LOOKS, "dan", day) for day in range(6, 11)], ["not", "open", "open", "able", "able"])
        self.assertEqual([status(plan, LOOKS, "ann", day) for day in (0, 1, 2, FAR)], ["not", "not", "open", "open"])
        self.assertEqual(status(plan, LOOKS, "dan", 0), "not")

    def test_span_of_all_days(self):
        plan = Plan([("ann", 1, 0, (0, FAR)), ("bob", FAR, FAR, (0, FAR))], [(FAR, "ann", "bob")])
        self.assertEqual(since_surely(plan, [(FAR, "ann", True)], "ann"), FAR)
        self.assertEqual(since_surely(plan, [(FAR - 1, "ann", True)], "bob"), FAR)
        self.assertEqual(since_surely(plan, [(FAR - 1, "ann", True)], "ann"), FAR - 1)
        self.assertEqual(since_surely(plan, [(FAR, "bob", True)], "bob"), 0)
        self.assertEqual(since_surely(plan, [(0, "ann", True)], "ann"), 0)
        self.assertEqual(greatest(plan, [(FAR - 1, "ann", False)]), (("ann", FAR), ("bob", 0)))
        # bob since day 0 is able on the last day, and brings it to ann then.
        self.assertEqual(greatest(plan, [(FAR, "ann", False)]), (("bob", 1),))
        self.assertEqual(greatest(plan, [(FAR, "bob", False)]), (("ann", 0), ("bob", 1)))
        self.assertEqual(status(plan, [(FAR - 1, "ann", True)], "bob", 2 * FAR), "able")
        self.assertEqual(status(plan, [(FAR, "ann", True)], "bob", 2 * FAR), "open")
        self.assertEqual(status(plan, [(FAR, "bob", True)], "bob", FAR), "able")
        self.assertEqual(status(plan, [(FAR, "bob", True)], "bob", FAR - 1), "not")

    def test_a_day_beyond_and_ahead_of_all_others(self):
        plan = Plan([("ann", 5, 0, (0, 9))])
        self.assertEqual(status(plan, [(9, "ann", True)], "ann", FAR), "able")
        self.assertEqual(status(plan, [(9, "ann", True)], "ann", 0), "not")
        self.assertEqual(since_surely(plan, [(FAR, "ann", True)], "ann"), 9)

    def test_greatest_plan_and_most_looks(self):
        names = ["a", "b", "c", "d", "e", "f", "g", "h"]
        people = [(name, FAR // 16 if name == "a" else 1, 3, (0, FAR)) for name in names]
        meetings = [(FAR // 16 * (number + 1), names[number // 2], names[(number + 3) // 2 % 8]) for number in range(16)]
        plan = Plan(people, meetings)
        looks = [(FAR // 16 * number, names[number % 8], False) for number in range(5)]
        looks = looks + [(FAR - number, names[number], True) for number in range(5)]
        world = greatest(plan, looks)
        self.assertEqual(len(world), 8)
        self.assertIs(possible(plan, looks), True)
        for place, name in enumerate(names):
            day = since_surely(plan, looks, name)
            first = since_possibly(plan, looks, name)
            self.assertEqual(first, expected_since(plan, world)[place])
            self.assertTrue(day is None or first <= day)
            self.assertEqual(day is None, status(plan, looks, name, 2 * FAR) == "open")
        self.assertEqual(first_ones(plan, looks)[1], tuple(names))

    def test_somewhat_beyond_the_limits(self):
        names = ["a", "b", "c", "d", "e", "f", "g", "h", "i", "j"]
        plan = Plan([(name, 1, 0, (0, 3 * FAR)) for name in names], [(2 * FAR, a, b) for a, b in zip(names, names[1:])] * 3)
        looks = [(FAR, "a", False)] * 8 + [(2 * FAR, "b", True)] * 8
        self.assertEqual(greatest(plan, looks)[:2], (("a", FAR + 1), ("b", 0)))
        self.assertEqual(since_surely(plan, looks, "b"), 2 * FAR)
        self.assertEqual(first_ones(plan, looks), ((), tuple(names)))


class Following(unittest.TestCase):
    def test_looks_in_another_order_and_twice_tell_the_same(self):
        for plan, worlds, looks in tried_cases(40, seed=24):
            if possible(plan, looks):
                for others in (looks[::-1], looks + looks):
                    for call, other in zip(calls_of(plan, looks, plan.names[-1]), calls_of(plan, others, plan.names[-1])):
                        self.assertEqual(call(), other())

    def test_what_surely_is_so_is_possibly_so(self):
        rng = random.Random(25)
        for number in range(100):
            plan = random_plan(rng)
            looks = tried_looks(rng, plan, [[]] + [[(p[0], p[3][0])] for p in plan.people if p[3] is not None])
            if not possible(plan, looks):
                continue
            always, some = first_ones(plan, looks)
            self.assertTrue(set(always) <= set(some))
            self.assertEqual(some, tuple(name for name, day in greatest(plan, looks)))
            for name in plan.names:
                first, last = since_possibly(plan, looks, name), since_surely(plan, looks, name)
                self.assertTrue(last is None or first <= last)


class Wrong(unittest.TestCase):
    def calls_with_name(self, plan, looks, name):
        return [
            lambda: since_possibly(plan, looks, name),
            lambda: since_surely(plan, looks, name),
            lambda: status(plan, looks, name, 3),
        ]

    def test_no_name_keeps_the_very_value(self):
        for value in no_names():
            for looks in (LOOKS, NONE_FITS, None, [None], [(9, "dan", 1)], value):
                for call in self.calls_with_name(example(), looks, value):
                    with self.assertRaises(NoName) as caught:
                        call()
                    self.assertIs(caught.exception.name, value)

    def test_wrong_looks_ahead_of_no_world(self):
        for call in calls_of(example(), NONE_FITS + (None,)) + [lambda: possible(example(), NONE_FITS + (None,))]:
            with self.assertRaises(InvalidLooks) as caught:
                call()
            self.assertEqual(caught.exception.at, 2)

    def test_no_world(self):
        for name in NAMES:
            for call in calls_of(example(), NONE_FITS, name):
                self.assertRaises(NoWorld, call)

    def test_possible_raises_no_such_error(self):
        self.assertIs(possible(example(), NONE_FITS), False)
        self.assertIs(possible(example(), LOOKS), True)


class Calls(unittest.TestCase):
    def test_arguments_by_name_in_another_order(self):
        plan = example()
        self.assertIs(possible(looks=MORE, plan=plan), True)
        self.assertEqual(greatest(looks=MORE, plan=plan), (("ann", 4), ("cyd", 4)))
        self.assertEqual(since_possibly(name="dan", looks=LOOKS, plan=plan), 6)
        self.assertEqual(since_surely(looks=LOOKS, name="dan", plan=plan), 8)
        self.assertEqual(status(day=5, name="cyd", looks=MORE, plan=plan), "not")
        self.assertEqual(first_ones(looks=MORE, plan=plan), (("cyd",), ("ann", "cyd")))

    def test_lists_and_tuples_are_looks(self):
        for one, other in zip(calls_of(example(), list(MORE), "dan", 6), calls_of(example(), tuple(MORE), "dan", 6)):
            self.assertEqual(one(), other())

    def test_the_same_call_twice_with_others_between_and_nothing_changes(self):
        plan = example()
        looks = [(9, "dan", True), (6, "ann", False)]
        told = [call() for call in calls_of(plan, looks, "dan", 8)]
        for others in (LOOKS, (), NONE_FITS):
            possible(plan, others)
            self.assertEqual([call() for call in calls_of(plan, looks, "dan", 8)], told)
        self.assertEqual(looks, [(9, "dan", True), (6, "ann", False)])
        self.assertEqual(plan, example())

    def test_later_changes_of_looks_have_no_effect(self):
        looks = list(MORE)
        world, lots = greatest(example(), looks), first_ones(example(), looks)
        looks.clear()
        self.assertEqual(world, (("ann", 4), ("cyd", 4)))
        self.assertEqual(lots, (("cyd",), ("ann", "cyd")))

    def test_what_is_returned_is_tuples(self):
        world = greatest(example(), list(MORE))
        lots = first_ones(example(), list(MORE))
        for value in (world, lots) + world + lots:
            self.assertIsInstance(value, tuple)
        self.assertIs(fits(example(), MORE, world), True)


if __name__ == "__main__":
    unittest.main()
