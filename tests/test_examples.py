"""The document's own examples that need only the modules that are there."""

import doctest
import pathlib
import unittest

from firstbore.plans import Plan
from firstbore.worlds import able, chain, since
from samples import LINES, MEETINGS, PEOPLE


class Examples(unittest.TestCase):
    def setUp(self):
        lines = ["person ann 2 3 0 9", "person bob 1 1 -", "person cyd 2 2 4 9", "person dan 1 0 -"]
        lines = lines + ["meet 3 ann bob", "meet 5 bob cyd", "meet 6 cyd dan", "meet 8 bob dan"]
        self.plan = Plan.read("\n".join(lines))

    def test_plan(self):
        self.assertEqual((self.plan.people, self.plan.meetings), (PEOPLE, MEETINGS))
        self.assertEqual(str(self.plan), "\n".join(LINES))

    def test_worlds(self):
        plan = self.plan
        told = since(plan, [("ann", 1)]), able(plan, [("ann", 1)], 6), chain(plan, [("ann", 1)], "dan")
        self.assertEqual(told, ((1, 3, 5, 8), ("ann", "bob"), (0, 3)))

    def test_what_section_1_tells(self):
        plan = self.plan
        self.assertEqual(since(plan, [("ann", 0)]), (0, 3, 5, 8))
        self.assertEqual(since(plan, [("cyd", 4)])[3], 6)
        self.assertEqual(since(plan, [("ann", 4)])[1], None)

    def test_readme(self):
        readme = pathlib.Path(__file__).parent.parent / "README.md"
        told = doctest.testfile(str(readme), module_relative=False)
        self.assertGreater(told.attempted, 0)
        self.assertEqual(told.failed, 0)


if __name__ == "__main__":
    unittest.main()
