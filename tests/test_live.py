"""[18] live books."""

import random
import unittest

from firstbore import errors
from firstbore.deciding import greatest, possible, since_surely
from firstbore.errors import InvalidLooks, Refused
from firstbore.live import Live
from firstbore.plans import Plan
from samples import (
    FAR, LOOKS, MEETINGS, MORE, NAMES, NONE_FITS, PEOPLE, example, fitting_days, nested, no_names, no_sequences,
    tried_cases,
)

NO_DAYS = [-1, -FAR, True, False, None, "", "3", "ann", [], (), [3], (3,), nested(list, 3), example(), errors.Refused(3)]
NO_BOOLS = [0, 1, -1, None, "", "yes", "True", [], (), [True], (True,), nested(tuple, True), example(), errors.NoWorld()]


class Stop(Exception):
    """An error of somebody else's."""


def state_of(live):
    """Return all that a live book tells, and how many deeds can be taken back."""
    return str(live.plan), live.looks, live.is_possible, len(live)


def states_back(live):
    """Return the states that come by taking back, down to the first one; behind it the book is as it was."""
    def work(book):
        states = [state_of(book)]
        while book.undo():
            states.append(state_of(book))
        return states
    return live.within(work)


class Begin(unittest.TestCase):
    def test_at_first(self):
        plan = example()
        live = Live(plan)
        self.assertEqual(live.plan, plan)
        self.assertEqual((live.looks, live.is_possible, len(live)), ((), True, 0))
        self.assertIs(live.undo(), False)
        self.assertEqual((live.plan, live.looks, len(live)), (plan, (), 0))

    def test_nobody_with_a_span_and_no_meetings(self):
        live = Live(Plan([("ann", 1, 0, None)]))
        self.assertIs(live.is_possible, True)
        self.assertIs(live.look(3, "ann", True), False)
        self.assertIs(live.is_possible, False)

    def test_not_iterable(self):
        live = Live(example())
        for call in (iter, list, tuple, set):
            self.assertRaises(TypeError, call, live)
        with self.assertRaises(TypeError):
            "ann" in live

    def test_two_books_beside_one_another(self):
        plan = example()
        one, other = Live(plan), Live(plan)
        one.look(9, "dan", True)
        one.meet(9, "ann", "dan")
        self.assertEqual(state_of(other), (str(plan), (), True, 0))
        other.several(NONE_FITS)
        self.assertEqual((one.looks, one.is_possible, len(one)), (LOOKS, True, 2))
        self.assertIs(other.undo(), True)
        self.assertEqual(len(one), 2)
        self.assertEqual(plan, example())
        self.assertEqual((one == other, one == one, one == 2, one != None), (False, True, False, True))  # noqa: E711


class Meet(unittest.TestCase):
    def test_a_meeting_is_added_behind_all(self):
        live = Live(example())
        plan = live.plan
        self.assertIsNone(live.meet(1, "dan", "ann"))
        self.assertEqual(live.plan.meetings, MEETINGS + ((1, "dan", "ann"),))
        self.assertEqual(live.plan.people, PEOPLE)
        self.assertEqual((live.looks, len(live)), ((), 1))
        self.assertIsNone(live.meet(FAR, "bob", "ann"))
        self.assertEqual(live.plan, example().further([(1, "dan", "ann"), (FAR, "bob", "ann")]))
        self.assertEqual(plan, example())

    def test_a_meeting_can_make_looks_fit_or_not(self):
        live = Live(Plan(PEOPLE))
        self.assertIs(live.look(9, "dan", True), False)
        live.meet(9, "ann", "dan")
        self.assertIs(live.is_possible, True)
        self.assertIs(live.look(10, "bob", False), True)
        self.assertIs(live.several([(9, "ann", True), (9, "cyd", False)]), True)
        live.meet(9, "bob", "ann")
        self.assertIs(live.is_possible, False)
        self.assertIs(live.undo(), True)
        self.assertIs(live.is_possible, True)

    def test_refused(self):
        live = Live(example())
        live.look(9, "dan", True)
        for many in (4, 5):
            state = state_of(live)
            rows = [(day, "ann", "bob") for day in NO_DAYS]
            rows += [(3, value, "bob") for value in no_names()] + [(3, "bob", value) for value in no_names()]
            rows += [(3, "ann", "ann"), (3, "eve", "ann"), (None, None, None), ([], {}, ())]
            for day, a, b in rows:
                with self.subTest(day=day, a=a, b=b):
                    with self.assertRaises(Refused) as caught:
                        live.meet(day, a, b)
                    self.assertEqual(caught.exception.at, many)
                    self.assertEqual(state_of(live), state)
            live.meet(7, "ann", "dan")


class Look(unittest.TestCase):
    def test_a_look_is_added_and_whether_some_world_fits_is_told(self):
        live = Live(example())
        self.assertIs(live.look(9, "dan", True), True)
        self.assertIs(live.look(6, "ann", False), True)
        self.assertEqual((live.looks, live.is_possible, len(live)), (MORE, True, 2))
        self.assertIs(live.look(9, "cyd", False), False)
        self.assertEqual((live.looks, live.is_possible, len(live)), (MORE + ((9, "cyd", False),), False, 3))
        self.assertIs(live.look(0, "ann", False), False)
        self.assertEqual(live.plan, example())

    def test_invalid_looks(self):
        live = Live(example())
        for many in (0, 1):
            state = state_of(live)
            rows = [(day, "ann", True) for day in NO_DAYS] + [(3, "ann", value) for value in NO_BOOLS]
            rows += [(3, value, False) for value in no_names()] + [(None, None, None), ("3", "eve", "yes")]
            for day, name, is_shown in rows:
                with self.subTest(day=day, name=name, is_shown=is_shown):
                    with self.assertRaises(InvalidLooks) as caught:
                        live.look(day, name, is_shown)
                    self.assertEqual(caught.exception.at, many)
                    self.assertEqual(state_of(live), state)
            live.look(9, "dan", True)

    def test_a_far_day(self):
        live = Live(Plan([("ann", 1, 0, (0, FAR))]))
        self.assertIs(live.look(FAR, "ann", True), True)
        self.assertIs(live.look(FAR - 1, "ann", False), True)
        self.assertIs(live.look(FAR, "ann", False), False)


class Several(unittest.TestCase):
    def test_all_looks_are_one_deed(self):
        for kind in (list, tuple):
            live = Live(example())
            self.assertIs(live.several(kind(MORE)), True)
            self.assertEqual((live.looks, len(live)), (MORE, 1))
            self.assertIs(live.several(kind([(9, "dan", False), (0, "dan", False)])), False)
            self.assertEqual((live.looks, len(live)), (MORE + ((9, "dan", False), (0, "dan", False)), 2))
            self.assertIs(live.undo(), True)
            self.assertEqual((live.looks, len(live), live.is_possible), (MORE, 1, True))
            self.assertIs(live.undo(), True)
            self.assertEqual((live.looks, len(live)), ((), 0))

    def test_no_looks_are_a_deed_too(self):
        live = Live(example())
        for many, value in enumerate(([], (), [])):
            self.assertIs(live.several(value), True)
            self.assertEqual((live.looks, len(live)), ((), many + 1))
        self.assertEqual([live.undo() for number in range(4)], [True, True, True, False])
        live.several(NONE_FITS)
        self.assertIs(live.several([]), False)
        self.assertIs(live.undo(), True)
        self.assertEqual((live.looks, live.is_possible), (NONE_FITS, False))

    def test_all_or_none(self):
        live = Live(example())
        live.look(9, "dan", True)
        state = state_of(live)
        good = (6, "ann", False)
        bad = [(value, "ann", True) for value in NO_DAYS] + [(3, "ann", value) for value in NO_BOOLS]
        bad += [(3, value, True) for value in no_names()] + no_names() + [list(good), good[:2], good + (None,), [good]]
        for value in bad:
            for looks, at in (([value], 0), ([good, value, good], 1), ((good, good, value, None), 2)):
                with self.subTest(looks=looks):
                    with self.assertRaises(Refused) as caught:
                        live.several(looks)
                    self.assertEqual(caught.exception.at, at)
                    self.assertEqual(state_of(live), state)
        for value in no_sequences():
            with self.assertRaises(Refused) as caught:
                live.several(value)
            self.assertEqual(caught.exception.at, 0)
            self.assertEqual(state_of(live), state)

    def test_later_changes_of_a_list_have_no_effect(self):
        live = Live(example())
        looks = list(MORE)
        live.several(looks)
        looks.clear()
        self.assertEqual(live.looks, MORE)
        self.assertIsInstance(live.looks, tuple)


class Undo(unittest.TestCase):
    def test_behind_each_kind_of_deed(self):
        live = Live(example())
        states = [state_of(live)]
        for deed in (
            lambda: live.meet(9, "ann", "dan"),
            lambda: live.look(9, "dan", True),
            lambda: live.several([(6, "ann", False), (9, "dan", False)]),
            lambda: live.meet(2, "ann", "cyd"),
            lambda: live.several(()),
            lambda: live.look(4, "bob", False),
        ):
            deed()
            states.append(state_of(live))
        self.assertEqual([state[3] for state in states], [0, 1, 2, 3, 4, 5, 6])
        self.assertEqual(states_back(live), states[::-1])
        for state in states[-2::-1]:
            self.assertIs(live.undo(), True)
            self.assertEqual(state_of(live), state)
        self.assertIs(live.undo(), False)
        self.assertEqual(state_of(live), states[0])

    def test_a_deed_that_failed_is_none(self):
        live = Live(example())
        live.look(9, "dan", True)
        self.assertRaises(Refused, live.meet, 3, "ann", "ann")
        self.assertRaises(InvalidLooks, live.look, 3, "eve", True)
        self.assertRaises(Refused, live.several, [(3, "ann", True), None])
        self.assertEqual(len(live), 1)
        self.assertIs(live.undo(), True)
        self.assertEqual((live.looks, len(live), live.undo()), ((), 0, False))

    def test_forty_deeds(self):
        live = Live(example())
        for number in range(40):
            live.look(number, "bob", False)
        self.assertEqual((len(live), len(live.looks)), (40, 40))
        self.assertEqual([live.undo() for number in range(41)], [True] * 40 + [False])
        self.assertEqual((len(live), live.looks), (0, ()))


class Within(unittest.TestCase):
    def setUp(self):
        self.live = Live(example())
        self.live.meet(9, "ann", "dan")
        self.live.several(MORE)
        self.live.look(0, "bob", False)
        self.before = states_back(self.live)

    def check_unchanged(self):
        self.assertEqual(states_back(self.live), self.before)

    def test_what_the_work_returns(self):
        live = self.live
        for value in (None, 3, "x", [live], (), False):
            self.assertIs(live.within(lambda book: value), value)
        self.assertIs(live.within(lambda book: book), live)
        self.assertEqual(live.within(len), 3)
        self.check_unchanged()

    def test_the_work_gets_the_book_as_it_is(self):
        self.assertEqual(self.live.within(state_of), self.before[0])

    def test_work_that_adds(self):
        def work(book):
            book.meet(1, "bob", "cyd")
            told = book.look(9, "dan", False), book.several([(3, "ann", True)]), len(book), len(book.plan), book.is_possible
            return told
        self.assertEqual(self.live.within(work), (False, False, 6, 6, False))
        self.check_unchanged()

    def test_work_that_takes_back(self):
        def work(book):
            return [book.undo() for number in range(5)], len(book), book.looks, book.plan
        self.assertEqual(self.live.within(work), ([True] * 3 + [False] * 2, 0, (), example()))
        self.check_unchanged()

    def test_work_that_takes_back_and_adds_as_much(self):
        def work(book):
            book.undo()
            book.undo()
            book.look(1, "cyd", False)
            book.several([])
            return len(book)
        self.assertEqual(self.live.within(work), 3)
        self.check_unchanged()

    def test_work_that_works_within_again(self):
        def inner(book):
            book.undo()
            book.look(2, "dan", False)
            return len(book)

        def work(book):
            book.meet(2, "ann", "bob")
            states = states_back(book)
            many = book.within(inner)
            self.assertEqual(states_back(book), states)
            self.assertRaises(Stop, book.within, self.failing)
            self.assertEqual(states_back(book), states)
            return many, len(book)
        self.assertEqual(self.live.within(work), (4, 4))
        self.check_unchanged()

    def failing(self, book):
        book.undo()
        book.meet(2, "ann", "bob")
        book.several(NONE_FITS)
        raise Stop("now")

    def test_an_error_goes_on_and_all_is_as_it_was(self):
        with self.assertRaises(Stop) as caught:
            self.live.within(self.failing)
        self.assertEqual(caught.exception.args, ("now",))
        self.check_unchanged()
        for deed, error in (
            (lambda book: book.meet(3, "ann", "ann"), Refused),
            (lambda book: (book.undo(), book.look(3, "eve", True)), InvalidLooks),
            (lambda book: (book.undo(), 1 // 0), ZeroDivisionError),
            (lambda book: (book.look(3, "ann", True), {}[1]), KeyError),
            (lambda book: (book.look(3, "ann", True), exit(1)), SystemExit),
            (lambda: None, TypeError),
        ):
            self.assertRaises(error, self.live.within, deed)
            self.check_unchanged()

    def test_a_book_that_is_used_on_goes_on(self):
        self.live.within(self.undoing)
        self.assertIs(self.live.undo(), True)
        self.assertEqual(states_back(self.live), self.before[1:])
        self.live.look(0, "cyd", False)
        self.assertEqual(self.live.looks, MORE + ((0, "cyd", False),))

    def undoing(self, book):
        while book.undo():
            pass

    def test_within_a_fresh_book(self):
        live = Live(example())
        live.within(lambda book: book.look(9, "dan", True))
        self.assertEqual(state_of(live), (str(example()), (), True, 0))
        self.assertIs(live.undo(), False)


class Drawn(unittest.TestCase):
    def test_the_same_as_the_functions_at_drawn_deeds(self):
        rng = random.Random(91)
        many = {True: 0, False: 0}
        for plan, worlds, looks in tried_cases(40, seed=92):
            live = Live(plan)
            states = [(plan, ())]
            for number in range(12):
                self.drawn_deed(rng, live, states, looks)
                now, seen = states[-1]
                self.assertEqual((live.plan, live.looks, len(live)), (now, seen, len(states) - 1))
                self.assertIs(live.is_possible, possible(now, seen))
                many[live.is_possible] += 1
                if number % 4 == 3:
                    self.assertIs(live.is_possible, len(fitting_days(now, worlds, seen)) > 0)
        self.assertGreater(min(many.values()), 100, many)

    def drawn_deed(self, rng, live, states, looks):
        """Do something that is drawn, and keep what is to be told behind it."""
        plan, seen = states[-1]
        kind = rng.choice(["meet", "look", "look", "several", "undo", "within"])
        if kind == "meet" and len(plan.people) > 1:
            meeting = (rng.randint(0, 9), *rng.sample(plan.names, 2))
            self.assertIsNone(live.meet(*meeting))
            states.append((Plan(plan.people, plan.meetings + (meeting,)), seen))
        elif kind == "look":
            look = rng.choice(looks) if looks else (rng.randint(0, 9), rng.choice(plan.names), rng.random() < 0.3)
            told = live.look(*look)
            states.append((plan, seen + (look,)))
            self.assertIs(told, possible(*states[-1]))
        elif kind == "several":
            further = [(rng.randint(0, 9), rng.choice(plan.names), False) for number in range(rng.randint(0, 2))]
            told = live.several(further)
            states.append((plan, seen + tuple(further)))
            self.assertIs(told, possible(*states[-1]))
        elif kind == "undo":
            self.assertIs(live.undo(), len(states) > 1)
            del states[max(1, len(states) - 1):]
        elif kind == "within":
            copy = list(states)
            live.within(lambda book: [self.drawn_deed(rng, book, copy, looks) for number in range(3)])

    def test_what_is_told_of_plan_and_looks(self):
        live = Live(example())
        live.several(MORE)
        live.meet(9, "ann", "dan")
        plan = example().further([(9, "ann", "dan")])
        self.assertEqual(greatest(live.plan, live.looks), greatest(plan, MORE))
        for name in NAMES:
            self.assertEqual(since_surely(live.plan, live.looks, name), since_surely(plan, MORE, name))


class Calls(unittest.TestCase):
    def test_arguments_by_name_in_another_order(self):
        live = Live(plan=example())
        self.assertIsNone(live.meet(b="ann", a="dan", day=7))
        self.assertIs(live.look(is_shown=True, name="dan", day=9), True)
        self.assertIs(live.several(looks=[(6, "ann", False)]), True)
        self.assertEqual(live.within(work=len), 3)
        self.assertEqual((live.plan.meetings[4], live.looks), ((7, "dan", "ann"), MORE))

    def test_what_was_told_stays(self):
        live = Live(example())
        live.look(9, "dan", True)
        plan, looks = live.plan, live.looks
        live.meet(9, "ann", "dan")
        live.look(6, "ann", False)
        self.assertEqual((plan, looks), (example(), LOOKS))


if __name__ == "__main__":
    unittest.main()
