"""[8] chains."""

import unittest

from firstbore.errors import InvalidWorld, NoName
from firstbore.plans import Plan
from firstbore.worlds import chain, since
from samples import cases, example, no_names

FAR = 10**18


def holder_behind(plan, first, day, ats):
    """Walk a chain from a first one with this own day; return who holds it then, None if a step fails."""
    waits = {person[0]: person[1] for person in plan.people}
    holder = first
    had = [first]
    for at in ats:
        meeting_day, a, b = plan.meetings[at]
        if holder not in (a, b) or day + waits[holder] > meeting_day:
            return None
        holder = b if holder == a else a
        if holder in had:
            return None
        had.append(holder)
        day = meeting_day
    return holder


def is_chain(plan, world, name, ats):
    """Tell whether numbers of meetings are a chain to this person from some first one."""
    return len(ats) > 0 and name in [holder_behind(plan, first, day, ats) for first, day in world]


class Chain(unittest.TestCase):
    def check(self, plan, world, name):
        """Look at the chain as [8] tells of it."""
        ats = chain(plan, world, name)
        start = since(plan, world)[plan.place(name)]
        with self.subTest(plan=str(plan), world=world, name=name, ats=ats):
            if start is None:
                self.assertIsNone(ats)
            elif dict(world).get(name) == start:
                self.assertEqual(ats, ())
            else:
                self.assertIsInstance(ats, tuple)
                self.assertTrue(is_chain(plan, world, name, ats))
                self.assertEqual(plan.meetings[ats[-1]][0], start)
        return ats

    def test_example(self):
        plan = example()
        self.assertEqual(self.check(plan, [("ann", 1)], "dan"), (0, 3))
        self.assertEqual(self.check(plan, [("ann", 1)], "bob"), (0,))
        self.assertEqual(self.check(plan, [("ann", 1)], "cyd"), (0, 1))
        self.assertEqual(self.check(plan, [("ann", 1)], "ann"), ())
        self.assertEqual(self.check(plan, [("cyd", 4)], "dan"), (2,))
        self.assertEqual(self.check(plan, [("cyd", 4)], "bob"), (2, 3))
        self.assertEqual(self.check(plan, [("ann", 0), ("cyd", 4)], "dan"), (2,))

    def test_never(self):
        plan = example()
        for name in ("ann", "bob", "cyd", "dan"):
            self.assertIsNone(chain(plan, [], name))
        for name in ("bob", "cyd", "dan"):
            self.assertIsNone(self.check(plan, [("ann", 2)], name))

    def test_own_day(self):
        plan = example()
        self.assertEqual(chain(plan, [("ann", 9)], "ann"), ())
        self.assertEqual(chain(plan, [("cyd", 4), ("ann", 1)], "cyd"), ())

    def test_own_day_that_is_also_that_of_a_meeting(self):
        plan = example()
        self.assertEqual(since(plan, [("ann", 1), ("cyd", 5)])[2], 5)
        self.assertEqual(chain(plan, [("ann", 1), ("cyd", 5)], "cyd"), ())

    def test_first_one_who_bears_it_earlier_through_another_one(self):
        plan = example()
        self.assertEqual(self.check(plan, [("ann", 1), ("cyd", 6)], "cyd"), (0, 1))
        self.assertEqual(self.check(plan, [("cyd", 9), ("ann", 1)], "cyd"), (0, 1))

    def test_through_a_first_one_whose_own_day_is_too_late(self):
        people = [("ann", 1, 0, (0, 9)), ("bob", 2, 0, (0, 9)), ("cyd", 1, 0, None)]
        plan = Plan(people, [(7, "bob", "cyd"), (3, "ann", "bob")])
        self.assertEqual(self.check(plan, [("ann", 1), ("bob", 6)], "cyd"), (1, 0))
        self.assertEqual(self.check(plan, [("ann", 1), ("bob", 6)], "bob"), (1,))
        self.assertEqual(self.check(plan, [("ann", 1), ("bob", 2)], "cyd"), (0,))

    def test_meetings_in_any_order_and_days_far_away(self):
        people = [(name, 1, 0, (0, FAR)) for name in "abcd"]
        plan = Plan(people, [(FAR, "c", "d"), (FAR - 2, "b", "a"), (FAR - 1, "b", "c"), (FAR - 2, "c", "b")])
        self.assertEqual(self.check(plan, [("a", FAR - 3)], "d"), (1, 2, 0))
        self.assertIsNone(self.check(plan, [("a", FAR - 2)], "d"))

    def test_longest_chain(self):
        names = "abcdefgh"
        people = [(name, 2, 0, (0, 0)) for name in names]
        meetings = [(2 * at + 2, names[at + 1], names[at]) for at in range(7)]
        self.assertEqual(self.check(Plan(people, meetings), [("a", 0)], "h"), (0, 1, 2, 3, 4, 5, 6))
        self.assertEqual(self.check(Plan(people, meetings[::-1]), [("a", 0)], "h"), (6, 5, 4, 3, 2, 1, 0))

    def test_each_chain_of_many_worlds(self):
        lengths = {}
        for plan, world in cases(1500, seed=7):
            for name in plan.names:
                ats = self.check(plan, world, name)
                kind = None if ats is None else len(ats)
                lengths[kind] = lengths.get(kind, 0) + 1
        for kind in (None, 0, 1, 2, 3):
            self.assertGreater(lengths[kind], 10)

    def test_worlds_where_first_ones_get_it_earlier(self):
        many = 0
        for plan, world in cases(1500, seed=8):
            for name, day in world:
                if since(plan, world)[plan.place(name)] < day:
                    many += 1
                    self.assertNotEqual(self.check(plan, world, name), ())
        self.assertGreater(many, 20)


class Wrong(unittest.TestCase):
    def test_no_name(self):
        plan = example()
        for value in no_names():
            for world in ([], [("ann", 1)], None, "x", [("ann", 99)], [("bob", 1)], [value], value):
                with self.subTest(value=value, world=world):
                    with self.assertRaises(NoName) as caught:
                        chain(plan, world, value)
                    self.assertIs(caught.exception.name, value)
                    with self.assertRaises(NoName) as caught:
                        chain(name=value, world=world, plan=plan)
                    self.assertIs(caught.exception.name, value)

    def test_wrong_world_behind_a_name(self):
        plan = example()
        for world, at in ((None, 0), ([("ann", 1), ("bob", 1)], 1), ([("ann", 10)], 0)):
            for name in plan.names:
                with self.assertRaises(InvalidWorld) as caught:
                    chain(plan, world, name)
                self.assertEqual(caught.exception.at, at)


if __name__ == "__main__":
    unittest.main()
