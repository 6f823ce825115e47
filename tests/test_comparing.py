"""[16] comparing two plans, held against all worlds tried one by one."""

import random
import unittest

from firstbore.comparing import alike, never_sooner, sooner
from firstbore.errors import InvalidPlan
from firstbore.plans import Plan
from samples import FAR, MEETINGS, PEOPLE, all_worlds, example, expected_since, tried_plan, wide_case, worlds_of_days


def is_earlier(one, other):
    """Tell whether a day, None for never, is earlier than another one."""
    return one is not None and (other is None or one < other)


def expected_never_sooner(p, q, worlds):
    """Follow the words of [16] over worlds."""
    for world in worlds:
        for one, other in zip(expected_since(p, world), expected_since(q, world)):
            if is_earlier(one, other):
                return False
    return True


def changed_plan(rng, plan):
    """Return a plan of the same people: with fewer, more, other or moved meetings, or in another order."""
    meetings = list(plan.meetings)
    kind = rng.choice(["fewer", "more", "other", "moved", "order", "turned", "twice"])
    if len(plan.people) > 1 and kind in ("more", "other"):
        new = [(rng.randint(0, 10), *rng.sample(plan.names, 2)) for number in range(rng.randint(1, 3))]
        meetings = meetings + new if kind == "more" else new + meetings[:3]
    elif meetings and kind == "fewer":
        meetings = rng.sample(meetings, rng.randint(0, len(meetings) - 1))
    elif meetings and kind == "moved":
        at = rng.randrange(len(meetings))
        day, a, b = meetings[at]
        meetings[at] = (max(0, day + rng.choice([-2, -1, 1, 2])), a, b)
    elif kind == "turned":
        meetings = [(day, b, a) for day, a, b in meetings]
    elif kind == "twice":
        meetings = meetings + meetings[:2]
    else:
        rng.shuffle(meetings)
    return Plan(plan.people, meetings)


class Tried(unittest.TestCase):
    def check(self, p, q, worlds):
        """Hold the three functions against worlds, and return what they tell."""
        with self.subTest(p=str(p), q=str(q)):
            never, never_back = expected_never_sooner(p, q, worlds), expected_never_sooner(q, p, worlds)
            self.assertIs(never_sooner(p, q), never)
            self.assertIs(never_sooner(q, p), never_back)
            for one, other in ((p, q), (q, p)):
                self.assertIs(alike(one, other), never and never_back)
            self.check_sooner(p, q, never)
            self.check_sooner(q, p, never_back)
            return never, never_back

    def check_sooner(self, p, q, never):
        """Look at the pair as [16] tells of it."""
        pair = sooner(p, q)
        self.assertIs(pair is None, never)
        if pair is not None:
            world, name = pair
            self.assertIsInstance(pair, tuple)
            self.assertIsInstance(world, tuple)
            self.assertEqual(len(world), 1)
            (first, day), = world
            span = p.people[p.names.index(first)][3]
            self.assertTrue(span[0] <= day <= span[1])
            place = p.names.index(name)
            self.assertTrue(is_earlier(expected_since(p, world)[place], expected_since(q, world)[place]))

    def test_small_plans(self):
        rng = random.Random(71)
        kinds = {}
        for number in range(500):
            p = tried_plan(rng)
            told = self.check(p, changed_plan(rng, changed_plan(rng, p)), all_worlds(p))
            kinds[told] = kinds.get(told, 0) + 1
        # Else this test would tell little.
        self.assertEqual(len(kinds), 4)
        self.assertGreater(min(kinds.values()), 20, kinds)

    def test_spans_of_very_many_days(self):
        # What comes of an own day can only change behind one that is just in time for a meeting.
        rng = random.Random(72)
        kinds = {}
        for number in range(300):
            p, looks, days = wide_case(rng)
            meetings = list(p.meetings)
            at = rng.randrange(len(meetings))
            met, a, b = meetings[at]
            meetings[at] = rng.choice([(met + 1, a, b), (max(0, met - 1), a, b), (met, p.names[0], p.names[1])])
            q = Plan(p.people, rng.sample(meetings, len(meetings)))
            near = {}
            for name, wait, show, span in p.people:
                if span is not None:
                    marks = [day - wait + more for day, a, b in p.meetings + q.meetings for more in (0, 1)] + list(span)
                    near[name] = sorted({mark for mark in marks if span[0] <= mark <= span[1]})
            told = self.check(p, q, worlds_of_days(p, near))
            kinds[told] = kinds.get(told, 0) + 1
        self.assertEqual(len(kinds), 4)


class Example(unittest.TestCase):
    def test_example(self):
        plan = example()
        self.assertIs(never_sooner(plan.without([1]), plan), True)
        self.assertIs(never_sooner(plan, plan.without([1])), False)
        self.assertEqual(sooner(plan, plan.without([1]))[1], "cyd")
        self.assertIsNone(sooner(plan.without([1]), plan))
        self.assertIs(alike(plan, plan.without([1])), False)

    def test_each_meeting_left_out(self):
        tried = Tried()
        for at in range(4):
            tried.check(example(), example().without([at]), all_worlds(example()))


class Edges(unittest.TestCase):
    def test_the_same_plan_and_meetings_in_another_order(self):
        for meetings in (MEETINGS, MEETINGS[::-1], [(day, b, a) for day, a, b in MEETINGS], MEETINGS * 2):
            other = Plan(PEOPLE, meetings)
            self.assertIs(alike(example(), other), True)
            self.assertIs(never_sooner(example(), other), True)
            self.assertIsNone(sooner(example(), other))

    def test_unlike_meetings_that_make_no_difference(self):
        people = [("ann", 1, 0, (5, 9)), ("bob", 1, 0, None), ("cyd", 1, 0, None)]
        # Too early for anybody, or among people whom nobody brings it, or behind one that brought it.
        for meeting in ((5, "ann", "bob"), (3, "bob", "cyd"), (10, "bob", "cyd"), (11, "ann", "bob")):
            p, q = Plan(people, [(10, "ann", "bob")]), Plan(people, [(10, "ann", "bob"), meeting])
            self.assertIs(alike(p, q), True)
        p, q = Plan(people, [(10, "ann", "bob")]), Plan(people, [(10, "ann", "bob"), (11, "cyd", "bob")])
        self.assertEqual((alike(p, q), never_sooner(p, q), never_sooner(q, p)), (False, True, False))
        self.assertEqual(sooner(q, p)[1], "cyd")

    def test_a_day_later(self):
        people = [("ann", 1, 0, (0, 9)), ("bob", 1, 0, None)]
        p, q = Plan(people, [(5, "ann", "bob")]), Plan(people, [(6, "ann", "bob")])
        # Since 5 ann is too late for the first one, but not for the second one.
        self.assertEqual((never_sooner(p, q), never_sooner(q, p), alike(p, q)), (False, False, False))
        self.assertEqual(sooner(q, p), ((("ann", 5),), "bob"))
        world, name = sooner(p, q)
        self.assertTrue(world[0][1] <= 4 and name == "bob")

    def test_never_is_later_than_each_day(self):
        people = [("ann", 1, 0, (0, 0)), ("bob", 1, 0, None)]
        p, q = Plan(people, [(FAR, "ann", "bob")]), Plan(people)
        self.assertEqual((never_sooner(p, q), never_sooner(q, p)), (False, True))
        self.assertEqual(sooner(p, q), ((("ann", 0),), "bob"))
        self.assertIsNone(sooner(q, p))

    def test_only_on_the_first_or_the_last_day_of_a_span(self):
        for span, day in (((4, 9), 4), ((0, 4), 4), ((4, 4), 4)):
            people = [("ann", 1, 0, span), ("bob", 1, 0, None)]
            p, q = Plan(people, [(5, "ann", "bob"), (3, "ann", "bob")]), Plan(people, [(3, "ann", "bob"), (12, "ann", "bob")])
            pair = sooner(p, q)
            self.assertEqual(pair, ((("ann", day),), "bob"))
        # A day too early, and a day too late.
        for span in ((5, 9), (0, 2)):
            people = [("ann", 1, 0, span), ("bob", 1, 0, None)]
            p, q = Plan(people, [(5, "ann", "bob"), (3, "ann", "bob")]), Plan(people, [(3, "ann", "bob"), (12, "ann", "bob")])
            self.assertIsNone(sooner(p, q))

    def test_nobody_with_a_span(self):
        people = [("ann", 1, 0, None), ("bob", 1, 0, None)]
        p, q = Plan(people, [(5, "ann", "bob")]), Plan(people)
        self.assertEqual((alike(p, q), never_sooner(p, q), sooner(p, q)), (True, True, None))

    def test_no_meetings(self):
        people = [("ann", 1, 0, (0, FAR)), ("bob", 1, 0, (0, FAR))]
        self.assertIs(alike(Plan(people), Plan(people)), True)
        self.assertEqual(sooner(Plan(people, [(FAR, "ann", "bob")]), Plan(people))[0][0][1], FAR - 1)

    def test_one_person(self):
        p, q = Plan([("ann", 1, 0, (0, FAR))]), Plan((("ann", 1, 0, (0, FAR)),), [])
        self.assertEqual((alike(p, q), never_sooner(p, q), sooner(p, q)), (True, True, None))

    def test_eight_people_and_sixteen_meetings(self):
        names = "abcdefgh"
        people = [(name, 1, 0, (0, FAR)) for name in names]
        meetings = [(FAR - 20 + at, names[at % 8], names[(at + 1) % 8]) for at in range(16)]
        p = Plan(people, meetings)
        for at in range(16):
            q = p.without([at])
            self.assertEqual((never_sooner(q, p), never_sooner(p, q), alike(p, q)), (True, False, False))
            world, name = sooner(p, q)
            place = p.names.index(name)
            self.assertTrue(is_earlier(expected_since(p, world)[place], expected_since(q, world)[place]))


class Wrong(unittest.TestCase):
    def test_plans_of_other_people(self):
        others = [
            PEOPLE[:3], PEOPLE[::-1], PEOPLE + (("eve", 1, 0, None),), PEOPLE[:3] + (("dan", 1, 1, None),),
            PEOPLE[:3] + (("dan", 2, 0, None),), PEOPLE[:3] + (("dan", 1, 0, (0, 0)),), PEOPLE[:3] + (("don", 1, 0, None),),
            (("ann", 2, 3, (0, 8)),) + PEOPLE[1:],
        ]
        for people in others:
            for call in (never_sooner, sooner, alike):
                for p, q in ((example(), Plan(people)), (Plan(people), example()), (Plan(PEOPLE), Plan(people))):
                    with self.assertRaises(InvalidPlan) as caught:
                        call(p, q)
                    self.assertEqual(caught.exception.word, "people")


class Calls(unittest.TestCase):
    def test_arguments_by_name_in_another_order(self):
        p, q = example(), example().without([1])
        self.assertIs(never_sooner(q=q, p=p), False)
        self.assertIs(never_sooner(q=p, p=q), True)
        self.assertEqual(sooner(q=q, p=p)[1], "cyd")
        self.assertIsNone(sooner(q=p, p=q))
        self.assertIs(alike(q=q, p=p), False)

    def test_the_same_call_twice_and_nothing_changes(self):
        p, q = example(), example().without([1])
        pair = sooner(p, q)
        for other in (p, q, p.without([0, 2])):
            alike(p, other)
            never_sooner(other, q)
            self.assertEqual(sooner(p, q), pair)
        self.assertEqual((p, q), (example(), example().without([1])))


if __name__ == "__main__":
    unittest.main()
