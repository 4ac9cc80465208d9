"""Point 45: the examples of the document, word for word; and those of README.md."""

import doctest
import pathlib
import unittest

from linkedfaults.sums import free_sum, no_way_out
from linkedfaults.systems import System

README = pathlib.Path(__file__).resolve().parent.parent / "README.md"

EXAMPLES = """
>>> from linkedfaults.systems import System
>>> from linkedfaults.sums import free_sum, least_chance, no_way_out, worst
>>> house = System({"a": (1, 3), "b": (1, 4), "c": (1, 3)}, [("a", "b"), ("b", "c")])
>>> [least_chance(house), free_sum(house, ["a", "c"]), house.near("b"), house["b"]]
[(7, 36), (4, 9), ['a', 'c'], (1, 4)]
>>> worst(house).outcomes()
{(): (7, 36), ('a',): (2, 9), ('b',): (1, 4), ('c',): (2, 9), ('a', 'c'): (1, 9)}
>>> [no_way_out(house), no_way_out(house.changed("b", (1, 2))).none()]
[None, (0, 1)]
>>> from linkedfaults.given import greatest_given, limit, room
>>> [greatest_given(house, "b", ["a", "c"]), limit(house, "b"), room(house, "b", (1, 9))]
[(9, 16), (4, 9), (1, 3)]
>>> from linkedfaults.rows import Row, fan_limit
>>> [Row([(1, 4)]).unsafe_at(), Row([(1, 4)]).stay(), Row([(1, 3)]).unsafe_at(), fan_limit(2)]
[None, (1, 2), 4, (4, 27)]
"""


class ExamplesTest(unittest.TestCase):

    def check(self, text):
        test = doctest.DocTestParser().get_doctest(text, {}, "examples", None, 0)
        shown = []
        results = doctest.DocTestRunner(verbose=False).run(test, out=shown.append)
        self.assertTrue(results.attempted > 5)
        self.assertEqual((results.failed, "".join(shown)), (0, ""))

    def test_of_the_document(self):
        self.check(EXAMPLES)

    def test_what_the_document_says_ahead_of_them(self):
        house = System({"a": (1, 3), "b": (1, 4), "c": (1, 3)}, [("a", "b"), ("b", "c")])
        lists = (["a"], ["b"], ["a", "b"], ["a", "c"], ["a", "b", "c"])
        self.assertEqual([free_sum(house, names) for names in lists], [(2, 3), (3, 4), (5, 12), (4, 9), (7, 36)])
        self.assertEqual(free_sum(house.changed("b", (1, 2))), (-1, 18))
        self.assertIsNotNone(no_way_out(house.changed("b", (1, 2))))

    def test_of_the_readme(self):
        # Fences that end an example would count as what it shows.
        self.check(README.read_text().replace("```", ""))


if __name__ == "__main__":
    unittest.main()
