"""[10] `since_surely` and `status` at two inputs at which they took long: the answers, and how much is done for them."""

import sys
import unittest

from firstbore.deciding import since_possibly, since_surely, status
from firstbore.plans import Plan
from samples import all_worlds, fitting_days

FAR_DAY = 10**17
FAR_PEOPLE = [
    ("ann", 2, 3, (FAR_DAY, FAR_DAY + 9)), ("bob", 1, 1, None), ("cyd", 2, 2, (FAR_DAY + 4, FAR_DAY + 9)), ("d", 1, 0, None),
]
FAR_MEETINGS = [(FAR_DAY + 3, "ann", "bob"), (FAR_DAY + 5, "bob", "cyd"), (FAR_DAY + 6, "cyd", "d"), (FAR_DAY + 8, "bob", "d")]
FAR_LOOKS = [(FAR_DAY + 9, "d", True), (FAR_DAY + 6, "ann", False)]
# For each person the day since when somebody surely bears it, and the status on each day from FAR_DAY on: n, o or a.
FAR_ANSWERS = {
    "ann": (None, "nnnnnnoooooooooooo"),
    "bob": (FAR_DAY + 8, "nnnnnnnnnaaaaaaaaa"),
    "cyd": (FAR_DAY + 4, "nnnnnnaaaaaaaaaaaa"),
    "d": (FAR_DAY + 6, "nnnnnnnaaaaaaaaaaa"),
}
NEAR_PEOPLE = [
    ("ann", 2, 3, (0, 3)), ("bob", 1, 1, (2, 5)), ("cyd", 2, 2, (4, 7)), ("d", 1, 0, None), ("eve", 3, 1, None),
]
NEAR_MEETINGS = [
    (3, "ann", "bob"), (5, "bob", "cyd"), (6, "cyd", "d"), (8, "bob", "d"), (8, "d", "eve"), (10, "ann", "eve"),
    (11, "bob", "eve"), (4, "ann", "cyd"),
]
NEAR_LOOKS = [(9, "d", True), (6, "ann", False), (12, "eve", True), (1, "bob", False), (14, "cyd", True)]
NEAR_ANSWERS = {
    "ann": (None, "nnnnnnnnnnnnnnnnnn"),
    "bob": (8, "nnnnoooooaaaaaaaaa"),
    "cyd": (7, "nnnnnnoooaaaaaaaaa"),
    "d": (8, "nnnnnnnooaaaaaaaaa"),
    "eve": (11, "nnnnnnnnnnnoooaaaa"),
}
WORDS = {"n": "not", "o": "open", "a": "able"}


def calls_made(work):
    """Return how many calls of Python functions some work makes: a measure of what is done that no clock disturbs."""
    made = []
    sys.setprofile(lambda frame, event, value: made.append(event) if event == "call" else None)
    try:
        work()
    finally:
        sys.setprofile(None)
    return len(made)


class Answers(unittest.TestCase):
    def check(self, plan, looks, answers, first_day):
        fitting = fitting_days(plan, all_worlds(plan), looks)
        self.assertEqual(list(answers), list(plan.names))
        for place, (name, (day, letters)) in enumerate(answers.items()):
            self.assertEqual(since_surely(plan, looks, name), day)
            starts = [days[place] for world, days in fitting]
            self.assertEqual(day, None if None in starts else max(starts))
            for number, letter in enumerate(letters):
                asked = first_day + number
                self.assertEqual(status(plan, looks, name, asked), WORDS[letter], (name, asked))
                able = [start is not None and start + plan.people[place][1] <= asked for start in starts]
                self.assertEqual(letter, "a" if all(able) else "o" if any(able) else "n")

    def test_far_days(self):
        self.check(Plan(FAR_PEOPLE, FAR_MEETINGS), FAR_LOOKS, FAR_ANSWERS, FAR_DAY)

    def test_near_days(self):
        self.check(Plan(NEAR_PEOPLE, NEAR_MEETINGS), NEAR_LOOKS, NEAR_ANSWERS, 0)

    def test_far_days_brought_near(self):
        people = [(name, wait, show, span and (span[0] - FAR_DAY, span[1] - FAR_DAY)) for name, wait, show, span in FAR_PEOPLE]
        plan = Plan(people, [(day - FAR_DAY, a, b) for day, a, b in FAR_MEETINGS])
        looks = [(day - FAR_DAY, name, is_shown) for day, name, is_shown in FAR_LOOKS]
        answers = {name: (day and day - FAR_DAY, letters) for name, (day, letters) in FAR_ANSWERS.items()}
        self.check(plan, looks, answers, 0)

    def test_days_around_the_far_ones(self):
        plan = Plan(FAR_PEOPLE, FAR_MEETINGS)
        for name, (day, letters) in FAR_ANSWERS.items():
            for asked in (0, 9, FAR_DAY - 1):
                self.assertEqual(status(plan, FAR_LOOKS, name, asked), "not")
            self.assertEqual(status(plan, FAR_LOOKS, name, 10**18), WORDS[letters[-1]])


class Work(unittest.TestCase):
    def test_far_days_are_no_more_work(self):
        far, near = Plan(FAR_PEOPLE, FAR_MEETINGS), Plan(NEAR_PEOPLE, NEAR_MEETINGS)
        for name in far.names:
            possibly = calls_made(lambda: since_possibly(far, FAR_LOOKS, name))
            # Halving over the days took more than a thousand calls.
            self.assertLess(calls_made(lambda: since_surely(far, FAR_LOOKS, name)), 3 * possibly)
        wide = Plan([person[:3] + (person[3] and (0, 10**18),) for person in NEAR_PEOPLE], NEAR_MEETINGS)
        for name in near.names:
            for plan in (near, wide):
                self.assertLess(calls_made(lambda: since_surely(plan, NEAR_LOOKS, name)), 250)
                for day in (0, 8, 17):
                    self.assertLess(calls_made(lambda: status(plan, NEAR_LOOKS, name, day)), 150)


if __name__ == "__main__":
    unittest.main()
