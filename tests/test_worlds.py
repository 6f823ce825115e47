"""[7] since, able and shows, the errors of worlds, and what [11] says of worlds."""

import itertools
import random
import unittest

from firstbore.errors import InvalidWorld
from firstbore.plans import Plan
from firstbore.worlds import able, chain, shows, since
from samples import NAMES, cases, example, expected_since, nested, no_names, no_sequences

FAR = 10**18


def pair_plan(wait, *meetings, show=0):
    """Return a plan of ann, who can be a first one, and bob, who cannot."""
    return Plan([("ann", wait, show, (0, 9)), ("bob", 1, 0, None)], [(day, "ann", "bob") for day in meetings])


class Since(unittest.TestCase):
    def test_example(self):
        days = since(example(), [("ann", 1)])
        self.assertEqual(days, (1, 3, 5, 8))
        self.assertIsInstance(days, tuple)

    def test_wait_that_is_just_over_and_one_that_is_not(self):
        self.assertEqual(since(pair_plan(3, 5), [("ann", 2)]), (2, 5))
        self.assertEqual(since(pair_plan(3, 5), [("ann", 3)]), (3, None))
        self.assertEqual(since(pair_plan(1, 5), [("ann", 4)]), (4, 5))
        self.assertEqual(since(pair_plan(1, 5), [("ann", 5)]), (5, None))

    def test_first_and_last_day_of_a_span(self):
        plan = example()
        self.assertEqual(since(plan, [("ann", 0)]), (0, 3, 5, 8))
        self.assertEqual(since(plan, [("ann", 9)]), (9, None, None, None))
        self.assertEqual(since(plan, [("cyd", 4)]), (None, 8, 4, 6))
        self.assertEqual(since(plan, [("cyd", 9)]), (None, None, 9, None))

    def test_span_of_one_day(self):
        plan = Plan([("ann", 1, 0, (4, 4))])
        self.assertEqual(since(plan, [("ann", 4)]), (4,))
        for day in (3, 5):
            with self.assertRaises(InvalidWorld):
                since(plan, [("ann", day)])

    def test_two_meetings_of_one_day_do_not_follow_on_each_other(self):
        people = [("ann", 1, 0, (0, 9)), ("bob", 1, 0, None), ("cyd", 1, 0, None)]
        meetings = [(3, "ann", "bob"), (3, "bob", "cyd")]
        for order in (meetings, meetings[::-1]):
            self.assertEqual(since(Plan(people, order), [("ann", 0)]), (0, 3, None))
            self.assertEqual(since(Plan(people, order + [(4, "bob", "cyd")]), [("ann", 0)]), (0, 3, 4))

    def test_each_order_of_meetings_gives_the_same(self):
        plan = example()
        for world in ([("ann", 1)], [("cyd", 4)], [("ann", 0), ("cyd", 4)]):
            days = since(plan, world)
            for order in itertools.permutations(plan.meetings):
                self.assertEqual(since(Plan(plan.people, order), world), days)

    def test_either_name_of_a_meeting_gives(self):
        people = [("ann", 1, 0, (0, 9)), ("bob", 1, 0, None)]
        for meeting in ((5, "ann", "bob"), (5, "bob", "ann")):
            self.assertEqual(since(Plan(people, [meeting]), [("ann", 0)]), (0, 5))

    def test_the_earliest_of_several_meetings(self):
        self.assertEqual(since(pair_plan(2, 7, 1, 5, 2, 6), [("ann", 0)]), (0, 2))
        self.assertEqual(since(pair_plan(2, 7, 1, 5, 2, 6), [("ann", 1)]), (1, 5))

    def test_wait_is_that_of_the_giver(self):
        people = [("ann", 2, 0, (0, 9)), ("bob", 5, 0, None), ("cyd", 1, 0, None)]
        plan = Plan(people, [(2, "ann", "bob"), (6, "bob", "cyd")])
        self.assertEqual(since(plan, [("ann", 0)]), (0, 2, None))
        plan = Plan(people, [(2, "ann", "bob"), (7, "bob", "cyd")])
        self.assertEqual(since(plan, [("ann", 0)]), (0, 2, 7))

    def test_several_first_ones(self):
        plan = example()
        for world in ([("ann", 0), ("cyd", 4)], [("cyd", 4), ("ann", 0)], (("ann", 0), ("cyd", 4))):
            self.assertEqual(since(plan, world), (0, 3, 4, 6))

    def test_first_one_who_bears_it_earlier_by_another_one(self):
        plan = example()
        self.assertEqual(since(plan, [("ann", 1), ("cyd", 8)]), (1, 3, 5, 8))
        self.assertEqual(since(plan, [("ann", 1), ("cyd", 5)]), (1, 3, 5, 8))
        self.assertEqual(since(plan, [("ann", 1), ("cyd", 4)]), (1, 3, 4, 6))

    def test_nobody(self):
        for world in ([], ()):
            self.assertEqual(since(example(), world), (None,) * 4)
            self.assertEqual(able(example(), world, FAR), ())
            self.assertEqual(shows(example(), world, FAR), ())

    def test_plan_without_meetings(self):
        plan = Plan(example().people)
        self.assertEqual(since(plan, [("cyd", 7)]), (None, None, 7, None))

    def test_days_far_away(self):
        people = [("ann", FAR - 2, 0, (0, FAR)), ("bob", 1, FAR, None), ("cyd", 1, 0, None)]
        meetings = [(FAR, "bob", "cyd"), (FAR - 1, "ann", "bob")]
        plan = Plan(people, meetings)
        self.assertEqual(since(plan, [("ann", 1)]), (1, FAR - 1, FAR))
        self.assertEqual(since(plan, [("ann", 2)]), (2, None, None))
        self.assertEqual(since(plan, [("ann", FAR)]), (FAR, None, None))
        self.assertEqual(able(plan, [("ann", 1)], FAR - 1), ("ann",))
        self.assertEqual(able(plan, [("ann", 1)], FAR), ("ann", "bob"))
        self.assertEqual(able(plan, [("ann", 2)], FAR - 1), ())
        self.assertEqual(shows(plan, [("ann", 1)], FAR), ("ann", "cyd"))
        self.assertEqual(chain(plan, [("ann", 1)], "cyd"), (1, 0))

    def test_greatest_plan(self):
        names = ["a", "b", "c", "d", "e", "f", "g", "h"]
        people = [(name, FAR // 20, at, (0, FAR)) for at, name in enumerate(names)]
        days = [FAR // 20 * (at + 1) for at in range(16)]
        meetings = [(day, names[at % 8], names[(at + 1) % 8]) for at, day in enumerate(days)]
        plan = Plan(people, meetings[::-1])
        self.assertEqual(since(plan, [("a", 0)]), (0,) + tuple(days[:7]))
        self.assertEqual(chain(plan, [("a", 0)], "h"), tuple(range(15, 8, -1)))

    def test_against_the_words_of_the_document(self):
        for plan, world in cases(1500):
            self.assertEqual(since(plan, world), expected_since(plan, world))


class OnDays(unittest.TestCase):
    def test_able_ahead_on_and_behind(self):
        plan = pair_plan(3, 5)
        self.assertEqual([able(plan, [("ann", 2)], day) for day in (0, 2, 4)], [(), (), ()])
        self.assertEqual(able(plan, [("ann", 2)], 5), ("ann",))
        self.assertEqual([able(plan, [("ann", 2)], day) for day in (6, 7, FAR)], [("ann", "bob")] * 3)

    def test_shows_ahead_on_and_behind(self):
        plan = pair_plan(1, 5, show=4)
        self.assertEqual([shows(plan, [("ann", 2)], day) for day in (0, 2, 4)], [(), (), ()])
        self.assertEqual(shows(plan, [("ann", 2)], 5), ("bob",))
        self.assertEqual([shows(plan, [("ann", 2)], day) for day in (6, 7, FAR)], [("ann", "bob")] * 3)

    def test_show_of_no_days_begins_on_the_day(self):
        plan = pair_plan(1, 5)
        self.assertEqual([shows(plan, [("ann", 3)], day) for day in (2, 3, 4, 5)], [(), ("ann",), ("ann",), ("ann", "bob")])

    def test_lots_are_ascending(self):
        people = [(name, 1, 0, (0, 9)) for name in ("zoe", "b", "cyd", "ab")]
        plan = Plan(people)
        world = [("cyd", 1), ("zoe", 0), ("ab", 2), ("b", 0)]
        self.assertEqual(able(plan, world, 9), ("ab", "b", "cyd", "zoe"))
        self.assertEqual(shows(plan, world, 9), ("ab", "b", "cyd", "zoe"))
        self.assertEqual(able(plan, world, 1), ("b", "zoe"))
        self.assertEqual(shows(plan, world, 1), ("b", "cyd", "zoe"))

    def test_somebody_never(self):
        self.assertEqual(able(example(), [("cyd", 9)], FAR), ("cyd",))
        self.assertEqual(shows(example(), [("cyd", 9)], FAR), ("cyd",))

    def test_against_the_words_of_the_document(self):
        for plan, world in cases(200, seed=2):
            days = expected_since(plan, world)
            for day in range(0, 20):
                rows = [(person, start) for person, start in zip(plan.people, days) if start is not None]
                self.assertEqual(able(plan, world, day), tuple(sorted(p[0] for p, s in rows if s + p[1] <= day)))
                self.assertEqual(shows(plan, world, day), tuple(sorted(p[0] for p, s in rows if s + p[2] <= day)))


class Wrong(unittest.TestCase):
    def check(self, at, world, plan=None):
        plan = plan or example()
        calls = [
            lambda: since(plan, world),
            lambda: able(plan, world, 3),
            lambda: shows(plan, world, 3),
            lambda: chain(plan, world, plan.names[0]),
        ]
        for call in calls:
            with self.subTest(world=world):
                with self.assertRaises(InvalidWorld) as caught:
                    call()
                self.assertEqual(caught.exception.at, at)

    def check_pair(self, pair):
        self.check(0, [pair])
        self.check(0, (pair, ("cyd", 4)))
        self.check(1, [("cyd", 5), pair])
        self.check(1, (("cyd", 5), pair, None))

    def test_no_sequence(self):
        for value in no_sequences():
            self.check(0, value)

    def test_any_values(self):
        for value in no_names():
            if value != ("ann", 0):
                self.check_pair(value)
            self.check_pair((value, 4))
            if not isinstance(value, int) or isinstance(value, bool) or not 0 <= value <= 9:
                self.check_pair(("ann", value))

    def test_sequences_of_any_values(self):
        self.check(0, nested(list, 1))
        self.check(0, nested(tuple, "ann"))
        self.check(0, [[("ann", 1)]])
        self.check(0, ("ann", 1))
        self.check(0, ["ann", 1])

    def test_things_that_are_no_pairs(self):
        for thing in [["ann", 1], ("ann",), ("ann", 1, 1), (), (("ann", 1),), (1, "ann"), "an", ("ann", [1]), ("ann", (1,))]:
            self.check_pair(thing)

    def test_names_that_are_none(self):
        for name in ["eve", "", "Ann", "ann ", 0, None, True, ["ann"], ("ann",)]:
            self.check_pair((name, 1))

    def test_a_name_twice(self):
        self.check(1, [("ann", 1), ("ann", 1)])
        self.check(2, [("ann", 1), ("cyd", 4), ("ann", 2)])
        self.check(2, (("ann", 1), ("cyd", 4), ("cyd", 4), ("ann", 1)))

    def test_somebody_without_a_span(self):
        self.check_pair(("bob", 3))
        self.check_pair(("dan", 0))

    def test_days_on_both_sides_of_the_span(self):
        self.check_pair(("ann", -1))
        self.check_pair(("ann", 10))
        self.check_pair(("ann", FAR))
        self.check(0, [("cyd", 3)])
        self.check(0, [("cyd", 10)])
        self.check(1, [("ann", 9), ("cyd", 3)])
        self.check(1, [("ann", 0), ("cyd", 10)])

    def test_days_that_are_none(self):
        for day in [True, False, None, "4", "", [4], (4,), -1]:
            self.check_pair(("ann", day))

    def test_the_first_wrong_thing_counts(self):
        self.check(0, [("eve", 1), None, ("ann", 10)])
        self.check(1, [("ann", 1), ("ann", 2), None])
        self.check(2, [("cyd", 4), ("ann", 2), ("ann", 10), ("bob", 1)])

    def test_names_of_wrong_things_were_not_there(self):
        self.check(0, [("ann", 10), ("ann", 1)])


class Together(unittest.TestCase):
    def test_worlds_put_together_give_the_earliest_days(self):
        for plan, world in cases(500, seed=5):
            singles = [since(plan, [pair]) for pair in world] or [(None,) * len(plan.people)]
            together = tuple(
                min((day for day in days if day is not None), default=None) for days in zip(*singles)
            )
            self.assertEqual(since(plan, world), together)

    def test_a_later_beginning_brings_nothing_earlier(self):
        rng = random.Random(6)
        for plan, world in cases(300, seed=6):
            if not world:
                continue
            name, day = world.pop()
            later = rng.randint(day, plan.people[plan.place(name)][3][1])
            for early, late in zip(since(plan, world + [(name, day)]), since(plan, world + [(name, later)])):
                self.assertTrue(late is None or early is not None and early <= late)


class Calls(unittest.TestCase):
    def test_arguments_by_name_in_another_order(self):
        plan = example()
        world = [("ann", 1)]
        self.assertEqual(since(world=world, plan=plan), (1, 3, 5, 8))
        self.assertEqual(able(day=6, world=world, plan=plan), ("ann", "bob"))
        self.assertEqual(shows(day=4, world=world, plan=plan), ("ann", "bob"))
        self.assertEqual(chain(name="dan", plan=plan, world=world), (0, 3))

    def test_lists_and_tuples_are_worlds(self):
        plan = example()
        for world in ([("ann", 1), ("cyd", 4)], (("ann", 1), ("cyd", 4))):
            self.assertEqual(since(plan, world), (1, 3, 4, 6))
            self.assertEqual(able(plan, world, 6), ("ann", "bob", "cyd"))
            self.assertEqual(shows(plan, world, 3), ())
            self.assertEqual(chain(plan, world, "dan"), (2,))

    def test_the_same_call_twice_and_nothing_changes(self):
        plan = example()
        text = str(plan)
        world = [("cyd", 4), ("ann", 1)]
        for name in NAMES:
            for call in (
                lambda: since(plan, world),
                lambda: able(plan, world, 6),
                lambda: shows(plan, world, 6),
                lambda: chain(plan, world, name),
            ):
                self.assertEqual(call(), call())
        self.assertEqual(world, [("cyd", 4), ("ann", 1)])
        self.assertEqual(str(plan), text)

    def test_what_is_returned_is_tuples(self):
        plan = example()
        world = [("ann", 1)]
        for value in (since(plan, world), able(plan, world, 6), shows(plan, world, 6), chain(plan, world, "dan")):
            self.assertIsInstance(value, tuple)
        self.assertIsInstance(chain(plan, world, "ann"), tuple)
        self.assertIsInstance(able(plan, [], 6), tuple)


if __name__ == "__main__":
    unittest.main()
