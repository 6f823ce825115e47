"""[5] plans, and what [2] and [3] say of them."""

import itertools
import string
import unittest

from firstbore.errors import InvalidPlan, NoName
from firstbore.plans import Plan
from samples import MEETINGS, NAMES, PEOPLE, example, nested, no_names, no_sequences

ANN = ("ann", 1, 0, (0, 9))
BOB = ("bob", 1, 0, None)
FAR = 10**18


def is_plain(value, least):
    """Tell whether a value is an integer, and no bool, from a least one on."""
    return isinstance(value, int) and not isinstance(value, bool) and value >= least


class Made(unittest.TestCase):
    def check(self, plan, people, meetings):
        self.assertIsInstance(plan.people, tuple)
        self.assertIsInstance(plan.meetings, tuple)
        self.assertIsInstance(plan.names, tuple)
        self.assertEqual(plan.people, tuple(people))
        self.assertEqual(plan.meetings, tuple(meetings))
        self.assertEqual(plan.names, tuple(person[0] for person in people))
        self.assertEqual(len(plan), len(meetings))
        for at, person in enumerate(people):
            self.assertEqual(plan.place(person[0]), at)

    def test_lists_and_tuples_give_the_same_plan(self):
        for people in (PEOPLE, list(PEOPLE)):
            for meetings in (MEETINGS, list(MEETINGS)):
                self.check(Plan(people, meetings), PEOPLE, MEETINGS)
                self.assertEqual(Plan(people, meetings), example())

    def test_names_are_in_the_order_of_people(self):
        people = [("zoe", 1, 0, None), ("ann", 1, 0, None), ("m", 1, 0, None)]
        self.check(Plan(people), people, ())
        self.assertEqual(Plan(people).names, ("zoe", "ann", "m"))

    def test_meetings_stay_in_their_order(self):
        meetings = [(9, "dan", "ann"), (2, "bob", "ann"), (9, "dan", "ann"), (0, "cyd", "bob")]
        self.check(Plan(PEOPLE, meetings), PEOPLE, meetings)

    def test_one_person_and_no_meetings(self):
        self.check(Plan([ANN]), [ANN], ())
        self.check(Plan([ANN], []), [ANN], ())
        self.check(Plan((ANN,), ()), [ANN], ())

    def test_eight_people_and_sixteen_meetings_far_away(self):
        people = [(name * 4, FAR - at, FAR, (at, FAR)) for at, name in enumerate("abcdefgh")]
        pairs = list(itertools.combinations([person[0] for person in people], 2))[:16]
        meetings = [(FAR - at // 4, a, b) for at, (a, b) in enumerate(pairs)]
        self.check(Plan(people, meetings), people, meetings)

    def test_somewhat_beyond_the_limits_is_no_error(self):
        people = [(name, FAR + 1, FAR + 2, (FAR + 3, FAR + 4)) for name in "abcdefghij"]
        meetings = [(FAR + at, "a", "j") for at in range(20)]
        self.check(Plan(people, meetings), people, meetings)

    def test_several_meetings_of_one_day_and_the_same_one_twice(self):
        meetings = [(3, "ann", "bob"), (3, "ann", "bob"), (3, "bob", "ann"), (3, "cyd", "bob")]
        self.check(Plan(PEOPLE, meetings), PEOPLE, meetings)

    def test_edges_of_values(self):
        for person in [
            ("a", 1, 0, (0, 0)), ("z", 1, 0, None), ("abyz", FAR, FAR, (FAR, FAR)), ("ab", 2, 1, (0, FAR)),
            ("abc", 1, 0, (4, 5)),
        ]:
            self.check(Plan([person]), [person], ())
        self.check(Plan([ANN, BOB], [(0, "bob", "ann")]), [ANN, BOB], [(0, "bob", "ann")])

    def test_lists_changed_behind_have_no_effect(self):
        people = list(PEOPLE)
        meetings = list(MEETINGS)
        plan = Plan(people, meetings)
        people.append(("eve", 1, 1, None))
        people[0] = ("fay", 1, 1, None)
        meetings.pop()
        meetings[0] = (1, "cyd", "dan")
        self.check(plan, PEOPLE, MEETINGS)

    def test_arguments_stay_as_they_were(self):
        people = list(PEOPLE)
        meetings = list(MEETINGS)
        Plan(people, meetings)
        self.assertEqual((people, meetings), (list(PEOPLE), list(MEETINGS)))

    def test_arguments_by_name_in_another_order(self):
        self.assertEqual(Plan(meetings=MEETINGS, people=PEOPLE), example())
        self.assertEqual(Plan(people=PEOPLE), Plan(PEOPLE, ()))

    def test_the_same_call_twice(self):
        self.assertEqual(Plan(PEOPLE, MEETINGS), Plan(PEOPLE, MEETINGS))
        plan = example()
        self.assertEqual(plan.names, plan.names)
        self.assertEqual(plan.place("dan"), plan.place("dan"))

    def test_plans_are_not_iterable(self):
        for plan in (example(), Plan([ANN])):
            with self.assertRaises(TypeError):
                iter(plan)
            with self.assertRaises(TypeError):
                list(plan)


class Wrong(unittest.TestCase):
    def check(self, word, people, meetings=()):
        with self.subTest(people=people, meetings=meetings):
            with self.assertRaises(InvalidPlan) as caught:
                Plan(people, meetings)
            self.assertEqual(caught.exception.word, word)

    def test_people_that_are_no_sequence_or_nobody(self):
        for value in no_sequences() + [[], ()]:
            self.check("people", value)

    def test_people_of_any_values(self):
        for value in no_names():
            self.check("people", [value])
            self.check("people", (ANN, value))
            if isinstance(value, (list, tuple)):
                self.check("people", value)

    def test_people_that_are_not_tuples_of_four(self):
        for value in [list(ANN), ANN[:3], ANN + (0,), (ANN,), [ANN], "annx", ()]:
            self.check("people", [value])
            self.check("people", [BOB, value])

    def test_names_that_are_none(self):
        for name in no_names():
            if name not in ("a", "eve", "anna"):
                self.check("people", [(name, 1, 0, None)])
        for name in ["", "abcde", "Ann", "anN", "a1", "1", "a b", "a_b", "a-", "\u00df", "a\n", "`", "{"]:
            self.check("people", [(name, 1, 0, None)])

    def test_each_sign_of_names(self):
        for code in list(range(0, 256)) + [0x430, 0x2113, 0xff41, 0x1d41a]:
            for name in (chr(code), "a" + chr(code), chr(code) + "abc"):
                if chr(code) in string.ascii_lowercase:
                    self.assertEqual(Plan([(name, 1, 0, None)]).names, (name,))
                else:
                    self.check("people", [(name, 1, 0, None)])

    def test_a_name_twice(self):
        self.check("people", [ANN, BOB, ("ann", 3, 3, None)])
        self.check("people", [ANN, ANN])
        self.check("people", [BOB, ANN, BOB], [(1, "ann", "bob")])

    def test_waits_that_are_none(self):
        for wait in [value for value in no_names() if not is_plain(value, 1)]:
            self.check("people", [("ann", wait, 0, None)])

    def test_wait_of_nothing_or_less(self):
        for wait in [0, -1, True, "1", None]:
            self.check("people", [("ann", wait, 0, None)])

    def test_shows_that_are_none(self):
        for show in [value for value in no_names() if not is_plain(value, 0)] + [-1, False, "0"]:
            self.check("people", [("ann", 1, show, None)])

    def test_spans_that_are_none(self):
        for value in no_names():
            if value is not None:
                self.check("people", [("ann", 1, 0, value)])
            if not is_plain(value, 0):
                self.check("people", [("ann", 1, 0, (value, 10**19))])
                self.check("people", [("ann", 1, 0, (0, value))])
        for span in [[0, 9], (0,), (0, 1, 2), (), (1, 0), (-1, 3), (-2, -1), (9, 8), (True, 2), (0, True)]:
            self.check("people", [("ann", 1, 0, span)])
        for span in [("0", "9"), (None, None), (None, 3), (3, None), ((0, 9),), ((0,), (9,)), False, 0, "-"]:
            self.check("people", [("ann", 1, 0, span)])

    def test_meetings_that_are_no_sequence(self):
        for value in no_sequences():
            self.check("meetings", [ANN, BOB], value)

    def test_meetings_of_any_values(self):
        for value in no_names():
            self.check("meetings", PEOPLE, [value])
            self.check("meetings", PEOPLE, MEETINGS + (value,))
            if not is_plain(value, 0):
                self.check("meetings", PEOPLE, [(value, "ann", "bob")])
            self.check("meetings", PEOPLE, [(0, value, "bob")])
            self.check("meetings", PEOPLE, [(0, "ann", value)])
            self.check("meetings", PEOPLE, [(0, value, value)])

    def test_meetings_that_are_not_tuples_of_three(self):
        for value in [[3, "ann", "bob"], (3, "ann"), (3, "ann", "bob", "cyd"), (), ("ann", "bob"), ((3, "ann", "bob"),)]:
            self.check("meetings", PEOPLE, [value])

    def test_meeting_of_somebody_alone_or_with_nobody_of_the_plan(self):
        self.check("meetings", [ANN, BOB], [(3, "ann", "ann")])
        self.check("meetings", [ANN, BOB], [(3, "ann", "cyd")])
        self.check("meetings", [ANN, BOB], [(3, "cyd", "bob")])
        self.check("meetings", [ANN, BOB], [(3, "ann", "bob"), (3, "bob", "bob")])

    def test_days_of_meetings_that_are_none(self):
        for day in [-1, True, False, "3", None, (3,), [3]]:
            self.check("meetings", PEOPLE, [(day, "ann", "bob")])

    def test_the_first_wrong_argument_where_both_are_wrong(self):
        for people in [None, [], [list(ANN)], [ANN, ANN]]:
            for meetings in [None, [None], [(3, "ann", "ann")], [(True, "ann", "bob")]]:
                self.check("people", people, meetings)


class Place(unittest.TestCase):
    def test_names(self):
        plan = example()
        self.assertEqual([plan.place(name) for name in NAMES], [0, 1, 2, 3])
        self.assertEqual(plan.place(name="cyd"), 2)

    def test_other_values(self):
        plan = example()
        for value in no_names():
            with self.subTest(value=value):
                with self.assertRaises(NoName) as caught:
                    plan.place(value)
                self.assertIs(caught.exception.name, value)
                with self.assertRaises(NoName) as caught:
                    plan.place(name=value)
                self.assertIs(caught.exception.name, value)

    def test_names_of_other_plans(self):
        with self.assertRaises(NoName) as caught:
            Plan([ANN]).place("bob")
        self.assertEqual(caught.exception.name, "bob")


class Without(unittest.TestCase):
    def test_all_parts(self):
        plan = example()
        for many in range(5):
            for ats in itertools.permutations(range(4), many):
                rest = tuple(MEETINGS[at] for at in range(4) if at not in ats)
                for left in (plan.without(ats), plan.without(list(ats)), plan.without(ats=ats)):
                    self.assertIsInstance(left, Plan)
                    self.assertEqual((left.people, left.meetings), (PEOPLE, rest))
        self.assertEqual((plan.people, plan.meetings), (PEOPLE, MEETINGS))

    def test_a_number_twice(self):
        plan = example()
        self.assertEqual(plan.without([1, 1]).meetings, MEETINGS[:1] + MEETINGS[2:])
        self.assertEqual(plan.without((3, 0, 3, 0)).meetings, MEETINGS[1:3])

    def test_none(self):
        plan = example()
        self.assertEqual(plan.without([]), plan)
        self.assertEqual(plan.without(()), plan)

    def test_only_one_of_two_equal_meetings(self):
        plan = Plan([ANN, BOB], [(3, "ann", "bob"), (4, "ann", "bob"), (3, "ann", "bob")])
        self.assertEqual(plan.without([0]).meetings, plan.meetings[1:])
        self.assertEqual(plan.without([2]).meetings, plan.meetings[:2])

    def test_argument_stays(self):
        ats = [2, 0, 2]
        left = example().without(ats)
        self.assertEqual(ats, [2, 0, 2])
        ats.append(1)
        self.assertEqual(left.meetings, (MEETINGS[1], MEETINGS[3]))


class Further(unittest.TestCase):
    def test_none(self):
        plan = example()
        for meetings in ([], ()):
            self.assertEqual(plan.further(meetings), plan)

    def test_some_stand_behind_in_their_order(self):
        plan = example()
        more = [(9, "dan", "ann"), (0, "ann", "cyd"), (9, "dan", "ann")]
        for longer in (plan.further(more), plan.further(tuple(more)), plan.further(meetings=more)):
            self.assertIsInstance(longer, Plan)
            self.assertEqual((longer.people, longer.meetings), (PEOPLE, MEETINGS + tuple(more)))
            self.assertIsInstance(longer.meetings, tuple)
            self.assertEqual(len(longer), 7)
        self.assertEqual((plan.people, plan.meetings, len(plan)), (PEOPLE, MEETINGS, 4))

    def test_argument_stays(self):
        more = [(9, "dan", "ann")]
        longer = example().further(more)
        self.assertEqual(more, [(9, "dan", "ann")])
        more.append(None)
        self.assertEqual(longer.meetings, MEETINGS + ((9, "dan", "ann"),))

    def test_wrong_values(self):
        plan = example()
        wrong = no_sequences() + [[value] for value in no_names()] + [(value,) for value in no_names()]
        wrong += [[(9, "ann", "bob"), (9, "bob", "bob")], [(9, "ann", "eve")], [(-1, "ann", "bob")], [[9, "ann", "bob"]]]
        wrong += [[(True, "ann", "bob")], [nested(tuple, 1)], [(9, "ann")], [(9, "ann", "bob", 1)]]
        for value in wrong:
            with self.subTest(value=value):
                with self.assertRaises(InvalidPlan) as caught:
                    plan.further(value)
                self.assertEqual(caught.exception.word, "meetings")
        self.assertEqual((plan.people, plan.meetings), (PEOPLE, MEETINGS))


if __name__ == "__main__":
    unittest.main()
