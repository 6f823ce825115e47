"""[14] meetings that are needed, and those that can have brought it, held against all worlds tried one by one."""

import random
import unittest

from firstbore.errors import InvalidLooks, NoWorld
from firstbore.plans import Plan
from firstbore.traces import brings, needed
from samples import (
    FAR, LOOKS, MORE, NONE_FITS, all_worlds, eight_people, example, expected_broken, fitting_days, moved, no_names,
    no_sequences, telling_cases, telling_worlds, tried_cases, tried_looks, wide_case,
)


def expected_needed(plan, looks, fitting):
    """Return what the words of [14] make of all worlds that fit."""
    ats = []
    for at in range(len(plan.meetings)):
        rest = Plan(plan.people, plan.meetings[:at] + plan.meetings[at + 1:])
        if all(expected_broken(rest, looks, world) for world, starts in fitting):
            ats.append(at)
    return tuple(ats)


def expected_brings(plan, fitting):
    """Return what the words of [14] make of all worlds that fit."""
    waits = {name: wait for name, wait, show, span in plan.people}
    pairs = set()
    for world, starts in fitting:
        days = dict(zip(plan.names, starts))
        for at, (day, a, b) in enumerate(plan.meetings):
            for name, other in ((a, b), (b, a)):
                if days[name] == day and days[other] is not None and days[other] + waits[other] <= day:
                    pairs.add((at, name))
    return tuple(sorted(pairs))


class Tried(unittest.TestCase):
    def check(self, plan, looks, worlds):
        """Hold both functions against all worlds, and return what they tell."""
        fitting = fitting_days(plan, worlds, looks)
        with self.subTest(plan=str(plan), looks=looks):
            if not fitting:
                self.assertRaises(NoWorld, needed, plan, looks)
                self.assertRaises(NoWorld, brings, plan, looks)
                return None, None
            told = needed(plan, looks), brings(plan, looks)
            self.assertEqual(told, (expected_needed(plan, looks, fitting), expected_brings(plan, fitting)))
            return told

    def test_small_plans(self):
        kinds = {"none fits": 0, "none needed": 0, "some needed": 0, "several needed": 0, "none brings": 0, "some": 0}
        kinds["both ways"] = kinds["needed, one way only"] = 0
        for plan, worlds, looks in tried_cases(100, seed=51) + telling_cases(300, seed=55):
            ats, pairs = self.check(plan, looks, worlds)
            if ats is None:
                kinds["none fits"] += 1
                continue
            kinds["none needed"] += len(plan.meetings) > 0 and ats == ()
            kinds["some needed"] += len(ats) > 0
            kinds["several needed"] += len(ats) > 1
            kinds["none brings"] += len(plan.meetings) > 0 and pairs == ()
            kinds["some"] += len(pairs) > 0
            numbers = [at for at, name in pairs]
            kinds["both ways"] += len(numbers) > len(set(numbers))
            kinds["needed, one way only"] += any(numbers.count(at) == 1 for at in ats)
        # Else this test would tell little.
        self.assertGreater(min(kinds.values()), 5, kinds)

    def test_eight_people_and_sixteen_meetings(self):
        rng = random.Random(52)
        for number in range(3):
            plan, worlds = eight_people(rng)
            self.check(plan, tried_looks(rng, plan, worlds), worlds)

    def test_spans_of_very_many_days(self):
        rng = random.Random(53)
        for number in range(80):
            plan, looks, days = wide_case(rng)
            self.check(plan, looks, telling_worlds(plan, looks, days))

    def test_days_moved_far(self):
        for plan, worlds, looks in tried_cases(40, seed=54):
            if fitting_days(plan, worlds, looks):
                far_plan, far_looks = moved(plan, looks, 10**17)
                self.assertEqual(needed(far_plan, far_looks), needed(plan, looks))
                self.assertEqual(brings(far_plan, far_looks), brings(plan, looks))


class Example(unittest.TestCase):
    def test_example(self):
        plan = example()
        self.assertEqual((needed(plan, list(LOOKS)), needed(plan, MORE)), ((), (2,)))
        self.assertEqual(brings(plan, LOOKS), ((0, "bob"), (1, "cyd"), (2, "dan"), (3, "bob"), (3, "dan")))
        self.assertEqual(brings(plan, list(MORE)), ((2, "dan"), (3, "bob")))

    def test_all_worlds_of_the_example(self):
        tried = Tried()
        for looks in ((), LOOKS, MORE, NONE_FITS):
            tried.check(example(), looks, all_worlds(example()))


class Needed(unittest.TestCase):
    def test_nothing_is_needed_where_no_look_shows_something(self):
        for looks in ([], (), [(9, "dan", False)]):
            self.assertEqual(needed(example(), looks), ())

    def test_no_meetings_and_nobody_with_a_span(self):
        plan = Plan([("ann", 1, 0, (0, 9)), ("bob", 1, 0, None)])
        for looks in ([], [(9, "ann", True)]):
            self.assertEqual((needed(plan, looks), brings(plan, looks)), ((), ()))
        plan = Plan([("ann", 1, 0, None), ("bob", 1, 0, None)], [(3, "ann", "bob")])
        self.assertEqual((needed(plan, []), brings(plan, [])), ((), ()))
        self.assertEqual((needed(plan, [(9, "bob", False)]), brings(plan, [(9, "bob", False)])), ((), ()))

    def test_each_meeting_of_the_only_way(self):
        people = [("ann", 1, 0, (0, 9)), ("bob", 1, 0, None), ("cyd", 1, 0, None)]
        plan = Plan(people, [(6, "cyd", "bob"), (7, "ann", "cyd"), (3, "bob", "ann")])
        self.assertEqual(needed(plan, [(6, "cyd", True)]), (0, 2))
        # By day 7 it can also come by the other meeting.
        self.assertEqual(needed(plan, [(7, "cyd", True)]), ())
        self.assertEqual(needed(plan, [(7, "cyd", True), (2, "ann", False)]), (1,))

    def test_two_meetings_of_one_day_of_which_neither_alone_is_needed(self):
        people = [("ann", 1, 0, (0, 9)), ("bob", 1, 0, None)]
        plan = Plan(people, [(3, "ann", "bob"), (3, "bob", "ann")])
        self.assertEqual(needed(plan, [(9, "bob", True)]), ())
        self.assertEqual(brings(plan, [(9, "bob", True)]), ((0, "bob"), (1, "bob")))

    def test_which_worlds_fit_is_told_with_all_meetings(self):
        # Without the first meeting bob would not bear it on day 4, however early ann begins; but with it ann since
        # 0 to 2 breaks the look at bob, so only ann since later fits, and the second meeting is needed.
        people = [("ann", 1, 0, (0, 9)), ("bob", 1, 0, None)]
        plan = Plan(people, [(3, "ann", "bob"), (6, "ann", "bob")])
        looks = [(4, "bob", False), (8, "bob", True)]
        self.assertEqual(needed(plan, looks), (1,))
        self.assertEqual(brings(plan, looks), ((1, "bob"),))
        # Somebody else whom ann would keep from fitting.
        people = people + [("cyd", 1, 0, None)]
        plan = Plan(people, [(3, "ann", "bob"), (3, "ann", "cyd"), (6, "ann", "cyd")])
        looks = [(9, "bob", False), (9, "cyd", True)]
        self.assertEqual(needed(plan, looks), (2,))
        self.assertEqual(brings(plan, looks), ((2, "cyd"),))


class Brings(unittest.TestCase):
    def test_an_own_day_that_is_that_of_the_meeting(self):
        # "bears it since just the day of this meeting", by the meeting or not.
        people = [("ann", 1, 0, (0, 0)), ("bob", 1, 0, (3, 3))]
        self.assertEqual(brings(Plan(people, [(3, "ann", "bob")]), []), ((0, "bob"),))
        self.assertEqual(brings(Plan(people, [(4, "ann", "bob")]), []), ((0, "ann"), (0, "bob")))
        self.assertEqual(brings(Plan(people, [(3, "ann", "bob")]), [(2, "ann", False)]), ())

    def test_the_other_one_must_be_able_just_in_time(self):
        for day, pairs in ((1, ()), (2, ()), (3, ((0, "bob"),)), (4, ((0, "bob"),))):
            plan = Plan([("ann", 3, 0, (0, 9)), ("bob", 1, 0, None)], [(day, "ann", "bob")])
            self.assertEqual(brings(plan, []), pairs)

    def test_on_day_zero_nobody_is_able(self):
        plan = Plan([("ann", 1, 0, (0, 9)), ("bob", 1, 0, (0, 9))], [(0, "ann", "bob"), (1, "ann", "bob")])
        self.assertEqual(brings(plan, []), ((1, "ann"), (1, "bob")))

    def test_somebody_who_surely_bears_it_earlier(self):
        people = [("ann", 1, 0, (0, 9)), ("bob", 1, 0, None)]
        plan = Plan(people, [(3, "ann", "bob"), (6, "ann", "bob")])
        self.assertEqual(brings(plan, []), ((0, "bob"), (1, "bob")))
        self.assertEqual(brings(plan, [(2, "ann", True)]), ((0, "bob"),))
        self.assertEqual(brings(plan, [(3, "bob", True)]), ((0, "bob"),))
        self.assertEqual(brings(plan, [(3, "bob", False)]), ((1, "bob"),))
        self.assertEqual(brings(plan, [(9, "bob", False)]), ())

    def test_several_meetings_of_one_day_with_one_person(self):
        people = [("ann", 1, 0, (0, 9)), ("bob", 1, 0, (0, 9)), ("cyd", 1, 0, None)]
        plan = Plan(people, [(5, "cyd", "bob"), (5, "ann", "cyd"), (5, "ann", "bob")])
        # Also with somebody who is able, though it may have come by another meeting of the day.
        self.assertEqual(brings(plan, []), ((0, "cyd"), (1, "cyd"), (2, "ann"), (2, "bob")))
        # cyd cannot give it on the day on which cyd got it.
        self.assertEqual(brings(plan, [(4, "bob", True)]), ((0, "cyd"), (1, "cyd"), (2, "ann")))

    def test_what_holds_only_without_the_brought(self):
        # dan shows it only if cyd bears it by day 5, so bob bears it by day 4, not since day 6.
        people = [("ann", 1, 0, (0, 9)), ("bob", 1, 0, None), ("cyd", 1, 0, None)]
        plan = Plan(people, [(4, "ann", "bob"), (5, "bob", "cyd"), (6, "ann", "bob")])
        self.assertEqual(brings(plan, []), ((0, "bob"), (1, "cyd"), (2, "bob")))
        self.assertEqual(brings(plan, [(9, "cyd", True)]), ((0, "bob"), (1, "cyd")))

    def test_the_last_days_there_are(self):
        people = [("ann", FAR, 0, (0, FAR)), ("bob", 1, FAR, (0, FAR))]
        plan = Plan(people, [(FAR, "ann", "bob"), (FAR - 1, "bob", "ann")])
        self.assertEqual(brings(plan, []), ((0, "ann"), (0, "bob"), (1, "ann")))
        self.assertEqual(brings(plan, [(0, "ann", False)]), ((0, "ann"), (1, "ann")))
        self.assertEqual(brings(plan, [(FAR - 1, "ann", False)]), ((0, "ann"),))
        self.assertEqual(needed(plan, [(2 * FAR, "bob", True)]), ())
        self.assertEqual(needed(plan, [(2 * FAR, "bob", True), (FAR, "ann", True), (FAR - 1, "ann", False)]), ())
        plan = Plan(people[:1] + [("bob", 1, FAR, None)], [(FAR, "ann", "bob")])
        self.assertEqual((needed(plan, [(2 * FAR, "bob", True)]), brings(plan, [])), ((0,), ((0, "bob"),)))


class Wrong(unittest.TestCase):
    def test_wrong_looks_ahead_of_no_world(self):
        rows = [(value, 0) for value in no_sequences()] + [([value], 0) for value in no_names()]
        for looks, at in rows + [(NONE_FITS + (None,), 2), (LOOKS + ((9, "dan", 1),), 1), (NONE_FITS + ((9, "eve", True),), 2)]:
            for call in (needed, brings):
                with self.assertRaises(InvalidLooks) as caught:
                    call(example(), looks)
                self.assertEqual(caught.exception.at, at)

    def test_no_world(self):
        for call in (needed, brings):
            self.assertRaises(NoWorld, call, example(), NONE_FITS)
            self.assertRaises(NoWorld, call, Plan([("ann", 1, 0, None)]), [(3, "ann", True)])


class Calls(unittest.TestCase):
    def test_arguments_by_name_in_another_order(self):
        self.assertEqual(needed(looks=MORE, plan=example()), (2,))
        self.assertEqual(brings(looks=MORE, plan=example()), ((2, "dan"), (3, "bob")))

    def test_the_same_call_twice_and_nothing_changes(self):
        plan = example()
        looks = [(9, "dan", True), (6, "ann", False)]
        for others in (LOOKS, (), MORE):
            needed(plan, others)
            brings(plan, others)
            for same in (looks, tuple(looks)):
                self.assertEqual((needed(plan, same), brings(plan, same)), ((2,), ((2, "dan"), (3, "bob"))))
        self.assertEqual(looks, [(9, "dan", True), (6, "ann", False)])
        self.assertEqual(plan, example())

    def test_what_is_returned_is_tuples(self):
        pairs = brings(example(), list(LOOKS))
        for value in (needed(example(), list(MORE)), needed(example(), []), pairs) + pairs:
            self.assertIsInstance(value, tuple)


if __name__ == "__main__":
    unittest.main()
