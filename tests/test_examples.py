"""The examples of the interface, word for word."""

import doctest
import pathlib
import unittest

README = pathlib.Path(__file__).parent.parent / "README.md"

SERVICES = """
>>> from oftenasked.services import answers, are_alike, least, parting, stand, stands_come_to
>>> lamp = ("nt", (((1, "x"), (1, "x")), ((1, "x"), (0, "y"))))
>>> [answers(lamp, "tntt"), stand(lamp, "tt"), stands_come_to(lamp), least(lamp) == lamp]
['xxyx', 0, (0, 1), True]
>>> dull = ("nt", (((0, "x"), (0, "x")),))
>>> [are_alike(lamp, dull), parting(lamp, dull)]
[False, 'nt']
"""

AGAIN = """
>>> from oftenasked.again import bears, borne, firsts, greatest_part, harmful, heard, is_history, part, window_of
>>> lamp = ("nt", (((1, "x"), (1, "x")), ((1, "x"), (0, "y"))))
>>> [heard(lamp, ("t", 1, "n", 2)), firsts(("t", 1, "n", 2)), is_history(lamp, "t", 1, ("t", "n", 2)), is_history(lamp, "t", 2, ("t", "n", 2))]
['xyxy', 'tn', False, True]
>>> [bears(lamp, "n", 1), bears(lamp, "n", 2), window_of(lamp, "n"), window_of(lamp, "t"), window_of(lamp, "")]
[True, False, 1, 0, None]
>>> [borne(lamp, 1), harmful(lamp, None), greatest_part(lamp, None), part(lamp, "n")]
['n', 'nt', 'n', ('n', (((0, 'x'),),))]
"""


class Examples(unittest.TestCase):
    def hold(self, name, text):
        test = doctest.DocTestParser().get_doctest(text, {}, name, name, 0)
        self.assertGreater(len(test.examples), 0)
        told = []
        results = doctest.DocTestRunner().run(test, out=told.append)
        self.assertEqual(results.failed, 0, "".join(told))

    def test_services(self):
        self.hold("services", SERVICES)

    def test_again(self):
        self.hold("again", AGAIN)

    def test_readme(self):
        self.hold("README.md", README.read_text().replace("```", ""))


if __name__ == "__main__":
    unittest.main()
