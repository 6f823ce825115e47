"""[6] the text of plans, and when they are equal."""

import random
import string
import unittest

from firstbore.errors import InvalidPlan, InvalidText
from firstbore.plans import Plan
from samples import LINES, MEETINGS, PEOPLE, example, no_names, random_plan

FAR = 10**18
PERSONS = LINES[:4]


class Written(unittest.TestCase):
    def test_text_of_the_example(self):
        self.assertEqual(str(example()), "\n".join(LINES))

    def test_lines_are_in_the_order_of_people_and_meetings(self):
        people = [("zoe", 10, 20, (30, 40)), ("a", 1, 0, None)]
        plan = Plan(people, [(7, "a", "zoe"), (FAR, "zoe", "a"), (0, "a", "zoe")])
        lines = ["person zoe 10 20 30 40", "person a 1 0 -", "meet 7 a zoe", f"meet {FAR} zoe a", "meet 0 a zoe"]
        self.assertEqual(str(plan), "\n".join(lines))

    def test_one_person(self):
        self.assertEqual(str(Plan([("a", 1, 0, (0, 0))])), "person a 1 0 0 0")
        self.assertEqual(str(Plan([("a", FAR, FAR, None)])), f"person a {FAR} {FAR} -")

    def test_the_same_text_each_time(self):
        plan = example()
        self.assertEqual(str(plan), str(plan))


class Read(unittest.TestCase):
    def test_the_example(self):
        plan = Plan.read("\n".join(LINES))
        self.assertIsInstance(plan, Plan)
        self.assertEqual((plan.people, plan.meetings), (PEOPLE, MEETINGS))
        self.assertEqual(Plan.read(text="\n".join(LINES)), plan)

    def test_text_and_back(self):
        rng = random.Random(3)
        for number in range(200):
            plan = random_plan(rng, 8, 16, rng.choice([12, 1000, FAR]))
            back = Plan.read(str(plan))
            self.assertEqual((back.people, back.meetings), (plan.people, plan.meetings))
            self.assertEqual(str(back), str(plan))
            self.assertEqual(back, plan)

    def test_numbers_of_nineteen_digits(self):
        most = 10**19 - 1
        plan = Plan.read(f"person a {most} {most} 0 {most}\nperson b 1 0 -\nmeet {most} a b")
        self.assertEqual(plan.people, (("a", most, most, (0, most)), ("b", 1, 0, None)))
        self.assertEqual(plan.meetings, ((most, "a", "b"),))

    def test_numbers_are_integers(self):
        name, wait, show, span = Plan.read("person a 10 0 0 20").people[0]
        self.assertEqual([repr(number) for number in (wait, show, *span)], ["10", "0", "0", "20"])


class Malformed(unittest.TestCase):
    def check(self, at, text):
        with self.subTest(text=text):
            with self.assertRaises(InvalidText) as caught:
                Plan.read(text)
            self.assertEqual(caught.exception.at, at)

    def check_line(self, line):
        self.check(0, line)
        self.check(4, "\n".join(PERSONS + [line]))
        self.check(8, "\n".join(LINES + [line]))
        self.check(5, "\n".join(LINES[:5] + [line] + LINES[5:]))
        self.check(2, "\n".join(PERSONS[:2] + [line] + ["", "also wrong"]))

    def test_empty_text(self):
        self.check(0, "")

    def test_empty_lines(self):
        self.check(8, "\n".join(LINES) + "\n")
        self.check(0, "\n" + "\n".join(LINES))
        self.check(4, "\n".join(PERSONS) + "\n\n" + "\n".join(LINES[4:]))
        self.check(0, "\n")
        self.check_line("")
        self.check_line(" ")

    def test_other_words(self):
        for line in [
            "Person eve 1 1 -", "persons eve 1 1 -", "meets 3 ann bob", "MEET 3 ann bob", "people", "x", "eve 1 1 -",
            "3 ann bob", "look 3 ann yes", "-", "person", "meet",
        ]:
            self.check_line(line)

    def test_words_of_a_person(self):
        for line in [
            "person eve 1 1", "person eve 1", "person eve", "person eve 1 1 1", "person eve 1 1 1 2 3", "person eve 1 1 - -",
            "person eve 1 1 - 3", "person eve 1 1 3 -", "person eve 1 1 none", "person eve 1 - 1", "person eve - 1 -",
            "person eve 1 1 --", "person 1 eve 1 -", "person eve 1 1 - 1 2", "person eve 1 -", "meet eve 1 1 -",
            "person eve 1 1 1 2 -",
        ]:
            self.check_line(line)

    def test_words_of_a_meeting(self):
        for line in [
            "meet 3 ann", "meet 3", "meet 3 ann bob cyd", "meet ann bob", "meet ann bob 3", "meet - ann bob", "meet ann 3 bob",
            "meet 3 4 ann bob", "person 3 ann bob", "meet 3 ann bob -",
        ]:
            self.check_line(line)

    def test_spaces(self):
        for line in [
            " person eve 1 1 -", "person eve 1 1 - ", "person  eve 1 1 -", "person eve 1  1 -", "person eve 1 1  -",
            "person eve 1 1 1 2 ", " meet 3 ann bob", "meet 3 ann bob ", "meet  3 ann bob", "meet 3  ann bob", "meet 3 ann  bob",
            "person\teve 1 1 -", "meet\t3 ann bob", "meet 3 ann bob\t", "meet 3 ann bob\r",
        ]:
            self.check_line(line)

    def test_numerals(self):
        for word in [
            "00", "01", "007", "-1", "+1", "-0", "1.0", "1e3", "1_0", "0x1", "a", "1a", "a1", "", "1" * 20, "0" * 19,
            str(10**19), "1,0", "'1'", "True", "None", "\u0661", "\u00b2", "\uff11",
        ]:
            for line in [
                f"person eve {word} 1 -", f"person eve 1 {word} -", f"person eve {word} 1 1 9", f"person eve 1 {word} 1 9",
                f"person eve 1 1 {word} 9", f"person eve 1 1 1 {word}", f"meet {word} ann bob",
            ]:
                self.check_line(line)

    def test_names(self):
        for word in ["abcde", "Eve", "eVe", "ev1", "1", "", "-", "e.v", "\u00e9ve", "e_v", "{", "`"]:
            for line in [f"person {word} 1 1 -", f"person {word} 1 1 2 3", f"meet 3 {word} bob", f"meet 3 ann {word}"]:
                self.check_line(line)

    def test_each_sign(self):
        for code in range(32, 127):
            sign = chr(code)
            for word in (sign, "a" + sign):
                if sign not in string.ascii_lowercase:
                    self.check(0, f"person {word} 1 1 -")
                else:
                    self.assertEqual(Plan.read(f"person {word} 1 1 -").names, (word,))
            for word in (sign, "1" + sign):
                if sign not in string.digits:
                    self.check(0, f"person ann 1 {word} -")
                else:
                    self.assertEqual(Plan.read(f"person ann 1 {word} -").people[0][2], int(word))

    def test_person_behind_a_meeting(self):
        self.check(8, "\n".join(LINES + ["person eve 1 1 -"]))
        self.check(5, "\n".join(LINES[:5] + ["person eve 1 1 3 4"] + LINES[5:]))
        self.check(1, "\n".join(LINES[4:5] + PERSONS))
        self.check(2, "\n".join(["person ann 1 0 -", "meet 3 ann bob", "person bob 1 0 -", "person"]))

    def test_only_the_line_feed_ends_a_line(self):
        for sign in ["\r", "\x0b", "\x0c", "\x1c", "\x85", "\u2028", "\r\n"]:
            self.check(0, "person ann 1 0 -" + sign + "person bob 1 0 -")

    def test_wrong_lines_come_ahead_of_wrong_plans(self):
        self.check(2, "person ann 0 1 -\nperson ann 1 1 -\nmeet 3 ann")
        self.check(1, "meet 3 ann ann\nmeet 3 ann ann ann")


class NoPlan(unittest.TestCase):
    def check(self, word, text):
        with self.subTest(text=text):
            with self.assertRaises(InvalidPlan) as caught:
                Plan.read(text)
            self.assertEqual(caught.exception.word, word)

    def test_people(self):
        self.check("people", "person ann 0 1 -")
        self.check("people", "person ann 1 1 3 2")
        self.check("people", "person ann 1 1 -\nperson ann 2 2 -")
        self.check("people", "meet 3 ann bob")
        self.check("people", "person ann 0 1 -\nmeet 3 ann ann")

    def test_meetings(self):
        self.check("meetings", "person ann 1 1 -\nmeet 3 ann ann")
        self.check("meetings", "person ann 1 1 -\nmeet 3 ann bob")
        self.check("meetings", "\n".join(LINES + ["meet 3 eve bob"]))


class Equal(unittest.TestCase):
    def test_equal_just_if_the_texts_are(self):
        rng = random.Random(4)
        plans = [example(), Plan.read("\n".join(LINES)), Plan(PEOPLE), Plan(PEOPLE[:2]), Plan(list(PEOPLE), list(MEETINGS))]
        plans += [Plan(PEOPLE, MEETINGS[::-1]), Plan(PEOPLE[::-1], MEETINGS), Plan(PEOPLE, MEETINGS + MEETINGS[:1])]
        plans += [Plan(PEOPLE, [(3, "bob", "ann")]), Plan(PEOPLE, [(3, "ann", "bob")]), Plan(PEOPLE, [(4, "ann", "bob")])]
        plans += [random_plan(rng, 2, 1, 1) for number in range(60)]
        for person in [("a", 1, 0, None), ("b", 1, 0, None), ("a", 2, 0, None), ("a", 1, 1, None), ("a", 1, 0, (0, 1)),
                       ("a", 1, 0, (1, 1)), ("a", 1, 0, (0, 2))]:
            plans.append(Plan([person]))
        for one in plans:
            for other in plans:
                same = str(one) == str(other)
                self.assertIs(one == other, same)
                self.assertIs(one != other, not same)

    def test_equal_to_nothing_else(self):
        plan = example()
        for value in no_names() + [str(plan), PEOPLE, (PEOPLE, MEETINGS), object(), {}, Plan]:
            if isinstance(value, Plan):
                continue
            with self.subTest(value=value):
                self.assertIs(plan == value, False)
                self.assertIs(plan != value, True)
                self.assertIs(value == plan, False)

    def test_look_alikes_of_another_class(self):
        class Other:
            people = PEOPLE
            meetings = MEETINGS
            names = ("ann", "bob", "cyd", "dan")

            def __str__(self):
                return "\n".join(LINES)

        self.assertIs(example() == Other(), False)


if __name__ == "__main__":
    unittest.main()
