"""[15] least cuts and ways apart, held against all sets of meetings and against all chains."""

import itertools
import random
import unittest

from firstbore.cuts import least_cuts, ways_apart
from firstbore.errors import InvalidWorld, NoName
from firstbore.plans import Plan
from firstbore.worlds import chain
from samples import FAR, NAMES, example, expected_since, no_names, no_sequences, random_world

BOTH = (("ann", 0), ("cyd", 4))


def expected_least_cuts(plan, world, name, day):
    """Follow the words of [15], trying all sets of meetings, shorter ones first, each size ascending."""
    numbers = range(len(plan.meetings))
    least = []
    for size in range(len(plan.meetings) + 1):
        for cut in itertools.combinations(numbers, size):
            if not any(set(other) <= set(cut) for other in least):
                rest = Plan(plan.people, [plan.meetings[at] for at in numbers if at not in cut])
                start = dict(zip(plan.names, expected_since(rest, world)))[name]
                if start is None or start > day:
                    least.append(cut)
    return tuple(least)


def chains_from(plan, holder, since, had):
    """Return (meetings, last person) of each chain from somebody who bears it since a day, as [8] tells of it."""
    wait = {person[0]: person[1] for person in plan.people}[holder]
    chains = []
    for at, (day, a, b) in enumerate(plan.meetings):
        if holder in (a, b) and since + wait <= day:
            other = b if holder == a else a
            if other not in had:
                chains.append(((at,), other))
                for ats, last in chains_from(plan, other, day, had + [other]):
                    chains.append(((at,) + ats, last))
    return chains


def most_apart(chains):
    """Return the greatest number of chains no two of which have a common meeting."""
    if not chains:
        return 0
    first, rest = chains[0], chains[1:]
    apart = [other for other in rest if not set(first) & set(other)]
    most = 1 + most_apart(apart)
    # Without the first one at most as many as there are others can be better.
    return max(most, most_apart(rest)) if len(rest) > len(apart) else most


def expected_ways_apart(plan, world, name, day):
    """Follow the words of [15], trying all chains."""
    chains = set()
    for first, own in world:
        for ats, last in chains_from(plan, first, own, [first]):
            if last == name and plan.meetings[ats[-1]][0] <= day:
                chains.add(ats)
    # A chain whose meetings are all in another one can take its place.
    shorter = [ats for ats in chains if not any(set(other) < set(ats) for other in chains)]
    return most_apart(sorted(shorter, key=len))


def cut_case(rng, most_people=5, most_meetings=7, least_meetings=0, most_day=9):
    """Return a small plan, one of its worlds and a day."""
    names = ["ann", "bob", "cyd", "dan", "eve", "fay"][:rng.randint(2, most_people)]
    rng.shuffle(names)
    people = []
    for number, name in enumerate(names):
        first = rng.randint(0, 4)
        span = (first, first + rng.randint(0, 3)) if number == 0 or rng.random() < 0.4 else None
        people.append((name, rng.choice([1, 1, 1, 2]), rng.randint(0, 3), span))
    many = rng.randint(least_meetings, most_meetings)
    meetings = [(rng.randint(1, most_day), *rng.sample(names, 2)) for number in range(many)]
    plan = Plan(people, meetings)
    return plan, random_world(rng, plan), rng.randint(least_meetings, most_day + 1)


class Tried(unittest.TestCase):
    def check(self, plan, world, name, day):
        """Hold both functions against the words, and return what they tell."""
        with self.subTest(plan=str(plan), world=world, name=name, day=day):
            cuts = least_cuts(plan, world, name, day)
            self.assertEqual(cuts, expected_least_cuts(plan, world, name, day))
            ways = ways_apart(plan, world, name, day)
            self.assertEqual(ways, expected_ways_apart(plan, world, name, day))
            if cuts != ():
                self.assertEqual(ways, len(cuts[0]))
            return cuts, ways

    def test_small_plans(self):
        rng = random.Random(61)
        kinds = {"none": 0, "none, but ways": 0, "the empty one": 0, "one": 0, "several": 0, "unlike lengths": 0, "ways": 0}
        for number in range(400):
            plan, world, day = cut_case(rng, 4, 8, 6) if number % 2 else cut_case(rng)
            for name in plan.names:
                cuts, ways = self.check(plan, world, name, day)
                kinds["none"] += cuts == ()
                kinds["none, but ways"] += cuts == () and ways > 0
                kinds["the empty one"] += cuts == ((),)
                kinds["one"] += len(cuts) == 1 and cuts != ((),)
                kinds["several"] += len(cuts) > 1
                kinds["unlike lengths"] += len({len(cut) for cut in cuts}) > 1
                kinds["ways"] += ways > 1
        # Else this test would tell little.
        self.assertGreater(min(kinds.values()), 20, kinds)

    def test_nine_meetings(self):
        rng = random.Random(62)
        most = 0
        for number in range(12):
            plan, world, day = cut_case(rng, most_people=4)
            further = [(rng.randint(2, 9), *rng.sample(plan.names, 2)) for at in range(9 - len(plan))]
            plan = plan.further(further)
            self.assertEqual(len(plan), 9)
            firsts = [person for person in plan.people if person[3] is not None]
            for world in (world, [(firsts[0][0], firsts[0][3][0])]):
                cuts, ways = self.check(plan, world, rng.choice(plan.names), 9)
                most = max(most, len(cuts))
        self.assertGreater(most, 3)

    def test_worlds_of_several_first_ones(self):
        rng = random.Random(63)
        told = 0
        for number in range(60):
            plan, world, day = cut_case(rng)
            everybody = Plan([person[:3] + ((0, 9),) for person in plan.people], plan.meetings)
            world = [(name, rng.randint(0, 9)) for name in rng.sample(plan.names, rng.randint(2, len(plan.names)))]
            for name in plan.names:
                cuts, ways = self.check(everybody, world, name, day)
                told += name in dict(world) and cuts not in ((), ((),))
        # Of first ones since a later day than it came to them there must be some.
        self.assertGreater(told, 5)

    def test_days_moved_far(self):
        rng = random.Random(64)
        for number in range(60):
            plan, world, day = cut_case(rng)
            by = FAR - 10
            people = [(name, wait, show, span and (span[0] + by, span[1] + by)) for name, wait, show, span in plan.people]
            far_plan = Plan(people, [(met + by, a, b) for met, a, b in plan.meetings])
            far_world = [(name, own + by) for name, own in world]
            for name in plan.names:
                self.assertEqual(least_cuts(far_plan, far_world, name, day + by), least_cuts(plan, world, name, day))
                self.assertEqual(ways_apart(far_plan, far_world, name, day + by), ways_apart(plan, world, name, day))

    def test_each_cut_leaves_no_chain_in_time(self):
        rng = random.Random(65)
        for number in range(60):
            plan, world, day = cut_case(rng)
            for name in plan.names:
                for cut in least_cuts(plan, world, name, day):
                    ats = chain(plan.without(cut), world, name)
                    start = dict(zip(plan.names, expected_since(plan.without(cut), world)))[name]
                    self.assertTrue(ats is None or start > day)


class Example(unittest.TestCase):
    def test_example(self):
        self.assertEqual(least_cuts(example(), list(BOTH), "dan", 9), ((0, 2), (2, 3)))
        self.assertEqual(ways_apart(example(), list(BOTH), "dan", 9), 2)

    def test_all_of_the_example(self):
        tried = Tried()
        for world in ((), BOTH, BOTH[:1], BOTH[1:], (("cyd", 9), ("ann", 1))):
            for name in NAMES:
                for day in range(11):
                    tried.check(example(), world, name, day)


class LeastCuts(unittest.TestCase):
    def test_a_first_one_since_a_day_up_to_it(self):
        for day, cuts in ((3, ((),)), (4, ()), (5, ()), (FAR, ())):
            self.assertEqual(least_cuts(example(), [("cyd", 4)], "cyd", day), cuts)
        # Also where it comes by a meeting, too, and earlier.
        self.assertEqual(least_cuts(example(), [("ann", 0), ("cyd", 6)], "cyd", 6), ())
        self.assertEqual(least_cuts(example(), [("ann", 0), ("cyd", 6)], "cyd", 5), ((0,), (1,)))
        self.assertEqual(least_cuts(example(), [("ann", 0), ("cyd", 6)], "cyd", 4), ((),))

    def test_nobody_brings_it_anyway(self):
        for world in ([], (), [("cyd", 9)]):
            for day in (0, 8, FAR):
                self.assertEqual(least_cuts(example(), world, "bob", day), ((),))
                self.assertEqual(ways_apart(example(), world, "bob", day), 0)
        self.assertEqual(least_cuts(example(), BOTH, "dan", 5), ((),))
        self.assertEqual(least_cuts(example(), BOTH, "dan", 6), ((2,),))
        self.assertEqual(least_cuts(example(), BOTH, "dan", 7), ((2,),))

    def test_no_meetings(self):
        plan = Plan([("ann", 1, 0, (0, 9)), ("bob", 1, 0, None)])
        self.assertEqual(least_cuts(plan, [("ann", 2)], "bob", 9), ((),))
        self.assertEqual(least_cuts(plan, [("ann", 2)], "ann", 2), ())
        self.assertEqual(least_cuts(plan, [("ann", 2)], "ann", 1), ((),))
        self.assertEqual(least_cuts(plan, [], "ann", 1), ((),))
        self.assertEqual([ways_apart(plan, [("ann", 2)], name, 9) for name in ("ann", "bob")], [0, 0])

    def test_shorter_ones_first_then_ascending(self):
        people = [("ann", 1, 0, (0, 9)), ("bob", 1, 0, None), ("cyd", 1, 0, None), ("dan", 1, 0, None)]
        plan = Plan(people, [(7, "cyd", "dan"), (5, "bob", "cyd"), (3, "ann", "bob"), (4, "ann", "bob"), (8, "cyd", "dan")])
        self.assertEqual(least_cuts(plan, [("ann", 0)], "dan", 9), ((1,), (0, 4), (2, 3)))
        self.assertEqual(least_cuts(plan, [("ann", 0)], "dan", 7), ((0,), (1,), (2, 3)))
        self.assertEqual(least_cuts(plan, [("ann", 3)], "dan", 7), ((0,), (1,), (3,)))

    def test_several_meetings_of_one_day(self):
        people = [("ann", 1, 0, (0, 9)), ("bob", 1, 0, None), ("cyd", 1, 0, None)]
        plan = Plan(people, [(3, "ann", "bob"), (3, "bob", "cyd"), (3, "bob", "ann"), (4, "cyd", "bob")])
        self.assertEqual(least_cuts(plan, [("ann", 0)], "bob", 3), ((0, 2),))
        self.assertEqual(least_cuts(plan, [("ann", 0)], "cyd", 4), ((3,), (0, 2)))
        self.assertEqual(least_cuts(plan, [("ann", 0)], "cyd", 3), ((),))
        self.assertEqual((ways_apart(plan, [("ann", 0)], "bob", 3), ways_apart(plan, [("ann", 0)], "cyd", 4)), (2, 1))

    def test_nine_meetings_one_by_one_and_in_rows_of_three(self):
        people = [("ann", 1, 0, (0, 9)), ("bob", 1, 0, None)]
        plan = Plan(people, [(day, "ann", "bob") for day in range(1, 10)])
        self.assertEqual(least_cuts(plan, [("ann", 0)], "bob", 9), (tuple(range(9)),))
        self.assertEqual(least_cuts(plan, [("ann", 4)], "bob", 8), ((4, 5, 6, 7),))
        self.assertEqual(ways_apart(plan, [("ann", 0)], "bob", 9), 9)
        people = [(name, 1, 0, (0, 0) if name == "a" else None) for name in "abcdefgh"]
        rows = [("a", "b"), ("b", "c"), ("c", "h"), ("a", "d"), ("d", "e"), ("e", "h"), ("a", "f"), ("f", "g"), ("g", "h")]
        plan = Plan(people, [(1 + at % 3, x, y) for at, (x, y) in enumerate(rows)])
        cuts = least_cuts(plan, [("a", 0)], "h", 9)
        self.assertEqual(cuts, tuple(itertools.product((0, 1, 2), (3, 4, 5), (6, 7, 8))))
        self.assertEqual(ways_apart(plan, [("a", 0)], "h", 9), 3)

    def test_the_last_days_there_are(self):
        plan = Plan([("ann", FAR, 0, (0, FAR)), ("bob", 1, 0, None)], [(FAR, "ann", "bob")])
        self.assertEqual(least_cuts(plan, [("ann", 0)], "bob", FAR), ((0,),))
        self.assertEqual(least_cuts(plan, [("ann", 0)], "bob", FAR - 1), ((),))
        self.assertEqual(least_cuts(plan, [("ann", 1)], "bob", FAR), ((),))
        self.assertEqual([ways_apart(plan, [("ann", own)], "bob", FAR) for own in (0, 1, FAR)], [1, 0, 0])


class WaysApart(unittest.TestCase):
    def test_each_chain_has_a_meeting_and_comes_in_time(self):
        self.assertEqual([ways_apart(example(), BOTH, "dan", day) for day in (5, 6, 7, 8)], [0, 1, 1, 2])
        self.assertEqual(ways_apart(example(), [("ann", 0)], "ann", FAR), 0)

    def test_a_first_one_can_get_it_from_another_one(self):
        # There is no cut, but a chain: "with at least one meeting".
        world = [("ann", 0), ("cyd", 4)]
        self.assertEqual(least_cuts(example(), world, "cyd", 5), ())
        self.assertEqual(ways_apart(example(), world, "cyd", 5), 1)
        self.assertEqual(ways_apart(example(), world, "cyd", 4), 0)
        self.assertEqual(ways_apart(example(), [("cyd", 4)], "cyd", FAR), 0)

    def test_a_first_one_with_whom_a_chain_begins_gets_it_never(self):
        people = [("ann", 1, 0, (0, 9)), ("bob", 1, 0, None)]
        plan = Plan(people, [(3, "ann", "bob"), (5, "bob", "ann"), (7, "ann", "bob")])
        self.assertEqual(ways_apart(plan, [("ann", 0)], "ann", 9), 0)
        # All three together are no chain, but each of them alone is one.
        self.assertEqual(ways_apart(plan, [("ann", 0)], "bob", 9), 3)
        self.assertEqual(least_cuts(plan, [("ann", 0)], "bob", 9), ((0, 1, 2),))

    def test_a_chain_through_a_first_one_whose_own_day_is_late(self):
        people = [("ann", 1, 0, (0, 9)), ("bob", 1, 0, (0, 9)), ("cyd", 1, 0, None)]
        plan = Plan(people, [(3, "ann", "bob"), (5, "bob", "cyd"), (9, "bob", "cyd")])
        self.assertEqual(ways_apart(plan, [("ann", 0), ("bob", 8)], "cyd", 9), 2)
        self.assertEqual(least_cuts(plan, [("ann", 0), ("bob", 8)], "cyd", 9), ((0, 2), (1, 2)))
        self.assertEqual(least_cuts(plan, [("ann", 0), ("bob", 8)], "cyd", 8), ((0,), (1,)))

    def test_ways_that_must_give_way_to_each_other(self):
        # The earliest way to eve takes the meetings of both others in part.
        people = [("ann", 1, 0, (0, 0))] + [(name, 1, 0, None) for name in ("bob", "cyd", "dan", "eve")]
        meetings = [(1, "ann", "bob"), (2, "bob", "cyd"), (3, "cyd", "eve"), (1, "ann", "dan"), (4, "dan", "cyd")]
        plan = Plan(people, meetings + [(5, "bob", "eve"), (6, "cyd", "eve")])
        self.assertEqual(ways_apart(plan, [("ann", 0)], "eve", 9), 2)
        Tried().check(plan, [("ann", 0)], "eve", 9)


class Wrong(unittest.TestCase):
    def test_no_name_ahead_of_wrong_worlds(self):
        for value in no_names():
            for world in ([], BOTH, None, [("ann", 99)], [value], value):
                for call in (least_cuts, ways_apart):
                    with self.assertRaises(NoName) as caught:
                        call(example(), world, value, 9)
                    self.assertIs(caught.exception.name, value)

    def test_wrong_worlds(self):
        rows = [(value, 0) for value in no_sequences()] + [([value], 0) for value in no_names() if value != ("ann", 0)]
        rows += [(BOTH + (("ann", 1),), 2), ([("ann", 0), ("bob", 3)], 1), ([("cyd", 3)], 0), ([("ann", 10)], 0)]
        rows += [([("ann", 0), ["cyd", 4]], 1), ([("ann", True)], 0), ([("ann", None)], 0), ([("eve", 3)], 0)]
        for world, at in rows:
            for call in (least_cuts, ways_apart):
                with self.subTest(world=world):
                    with self.assertRaises(InvalidWorld) as caught:
                        call(example(), world, "dan", 9)
                    self.assertEqual(caught.exception.at, at)


class Calls(unittest.TestCase):
    def test_arguments_by_name_in_another_order(self):
        self.assertEqual(least_cuts(day=9, name="dan", world=BOTH, plan=example()), ((0, 2), (2, 3)))
        self.assertEqual(ways_apart(day=9, world=BOTH, name="dan", plan=example()), 2)

    def test_the_same_call_twice_and_nothing_changes(self):
        plan = example()
        world = [("ann", 0), ("cyd", 4)]
        for others in ([], [("ann", 9)], list(BOTH)):
            least_cuts(plan, others, "cyd", 3)
            ways_apart(plan, others, "cyd", 3)
            for same in (world, tuple(world), world[::-1]):
                self.assertEqual(least_cuts(plan, same, "dan", 9), ((0, 2), (2, 3)))
                self.assertEqual(ways_apart(plan, same, "dan", 9), 2)
        self.assertEqual(world, [("ann", 0), ("cyd", 4)])
        self.assertEqual(plan, example())

    def test_what_is_returned_is_tuples(self):
        for world in (BOTH, [], [("ann", 0)]):
            cuts = least_cuts(example(), list(world), "dan", 9)
            for value in (cuts,) + cuts:
                self.assertIsInstance(value, tuple)
            self.assertIsInstance(ways_apart(example(), world, "dan", 9), int)


if __name__ == "__main__":
    unittest.main()
