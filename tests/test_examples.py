"""The examples of the interface, word for word."""

import doctest
import pathlib
import unittest

README = pathlib.Path(__file__).parent.parent / "README.md"

SERVICES = """
>>> from oftenasked.services import answers, are_alike, least, parting, stand, stands_come_to
>>> lamp = ("nt", (((1, "x"), (1, "x")), ((1, "x"), (0, "y"))))
>>> [answers(lamp, "tntt"), stand(lamp, "tt"), stands_come_to(lamp), least(lamp) == lamp]
['xxyx', 0, (0, 1), True]
>>> dull = ("nt", (((0, "x"), (0, "x")),))
>>> [are_alike(lamp, dull), parting(lamp, dull)]
[False, 'nt']
"""

AGAIN = """
>>> from oftenasked.again import bears, borne, firsts, greatest_part, harmful, heard, is_history, part, window_of
>>> lamp = ("nt", (((1, "x"), (1, "x")), ((1, "x"), (0, "y"))))
>>> [heard(lamp, ("t", 1, "n", 2)), firsts(("t", 1, "n", 2)), is_history(lamp, "t", 1, ("t", "n", 2)), is_history(lamp, "t", 2, ("t", "n", 2))]
['xyxy', 'tn', False, True]
>>> [bears(lamp, "n", 1), bears(lamp, "n", 2), window_of(lamp, "n"), window_of(lamp, "t"), window_of(lamp, "")]
[True, False, 1, 0, None]
>>> [borne(lamp, 1), harmful(lamp, None), greatest_part(lamp, None), part(lamp, "n")]
['n', 'nt', 'n', ('n', (((0, 'x'),),))]
"""

PAPERS = """
>>> from oftenasked.papers import answers_again, broken, judged, paper, second_broken
>>> lamp = ("nt", (((1, "x"), (1, "x")), ((1, "x"), (0, "y"))))
>>> [broken(lamp, "n", 2), broken(lamp, "nt", 1), broken(lamp, "n", 1), paper(lamp, "n", 1)]
[('n', 't', 2, 't'), ('t', 1, 't'), None, ('bears', (0, 1))]
>>> [judged(lamp, "n", 1, ("bears", (0, 0))), judged(lamp, "n", 2, ("broken", ("n", "t", 2, "t"))), answers_again(lamp, "n", 1)]
[False, True, True]
>>> count = ("gs", (((0, "a"), (1, "o")), ((1, "b"), (1, "o"))))
>>> [answers_again(count, "g", 1), answers_again(count, "g", 2), second_broken(count, "g", 2)]
[True, False, ('g', 's', 2)]
"""

ORDERS = """
>>> from oftenasked.orders import can_lead, may_swap, swaps
>>> count = ("gs", (((0, "a"), (1, "o")), ((1, "b"), (1, "o"))))
>>> [may_swap(count, "g", "s"), swaps(count), can_lead(count, "gs", "sg"), swaps(("ab", (((0, "x"), (0, "y")),)))]
[False, (), False, ('ab',)]
"""

CLERKS = """
>>> from oftenasked.clerks import clerk_breaks, clerked, does_serve, is_enough, wished
>>> lamp = ("nt", (((1, "x"), (1, "x")), ((1, "x"), (0, "y"))))
>>> [clerked(lamp, (3, 2), ("t", 1, "t", 2, 1)), wished(lamp, ("t", 1, "t", 2, 1)), clerked(lamp, (3, 1), ("t", "t", 2))]
[('x', 'x', 'y', 'x', 'y'), ('x', 'x', 'y', 'x', 'y'), ('x', 'y', '')]
>>> [is_enough((3, 2), 2), is_enough((2, 2), 2), does_serve(lamp, (2, 2), ("t", "t", 2)), clerk_breaks((3, 2), 2)]
[True, False, True, None]
"""

LOTS = """
>>> from oftenasked.lots import are_alike_again, beside, can_answer, renamed, row_again
>>> lamp = ("nt", (((1, "x"), (1, "x")), ((1, "x"), (0, "y"))))
>>> [can_answer(lamp, "t", None, "tnt"), can_answer(lamp, "t", 0, "tt"), renamed(lamp, "ba") == ("ab", (((1, "x"), (1, "x")), ((0, "y"), (1, "x"))))]
[('x', 'x', 'xy'), ('x', 'y'), True]
>>> dull = ("nt", (((0, "x"), (0, "x")),))
>>> [row_again(lamp, dull, ""), are_alike_again(lamp, lamp, "nt"), len(beside(lamp, ("a", (((0, "z"),),)))[1])]
['nt', True, 2]
"""

READING = r"""
>>> from oftenasked.reading import printed, run
>>> text = "asks nt;stand OFF=t>ON x,n>ON x;stand ON=n>ON x,t>OFF y;"
>>> printed(text + "ask bears n ever;ask can t 2 tt;")
'asks nt;\nstand OFF = n > ON x, t > ON x;\nstand ON = n > ON x, t > OFF y;\nask bears n ever;\nask can t 2 tt;'
>>> run(text + "ask answers tt; ask bears n 1; ask window n; ask again n 1; ask can t 2 tt;")
('xy', True, 1, True, ('x', 'xy'))
"""

DESKS = r"""
>>> from oftenasked.desks import Desk
>>> desk = Desk(("nt", (((1, "x"), (1, "x")), ((1, "x"), (0, "y")))))
>>> done = [desk.ask("t"), desk.again(1), desk.ask("t")]
>>> [done, desk.history(), desk.answers(), desk.would(), desk.stand(), desk.text()]
[['x', 'y', 'x'], ('t', 1, 't'), 'xyx', 'xy', 1, 'asks nt\nhistory t 1 t\n']
"""


class Examples(unittest.TestCase):
    def hold(self, name, text):
        test = doctest.DocTestParser().get_doctest(text, {}, name, name, 0)
        self.assertGreater(len(test.examples), 0)
        told = []
        results = doctest.DocTestRunner().run(test, out=told.append)
        self.assertEqual(results.failed, 0, "".join(told))

    def test_services(self):
        self.hold("services", SERVICES)

    def test_again(self):
        self.hold("again", AGAIN)

    def test_papers(self):
        self.hold("papers", PAPERS)

    def test_orders(self):
        self.hold("orders", ORDERS)

    def test_clerks(self):
        self.hold("clerks", CLERKS)

    def test_lots(self):
        self.hold("lots", LOTS)

    def test_reading(self):
        self.hold("reading", READING)

    def test_desks(self):
        self.hold("desks", DESKS)

    def test_readme(self):
        self.hold("README.md", README.read_text().replace("```", ""))


if __name__ == "__main__":
    unittest.main()
