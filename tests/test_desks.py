"""Promise 16: the desk."""

import random
import unittest

from oftenasked.again import firsts, heard
from oftenasked.desks import Desk
from oftenasked.errors import BadService, NoAsk, NoSuch, NothingDone, ServiceError, TooLong
from oftenasked.services import answers, stand
from tests.plain import COUNT, DULL, LAMP, TOGGLE, chain, follow, ring, some_services
from tests.test_values import is_plain_service, odd_values

NO_ASKS = ("", "nt", "tn", "nn", "x", "N", "n ", "\u00e9", None, True, False, 0, 1, ("n",), ["n"], {"n": 1}, [], {}, ())
NO_SUCH = (0, -1, -10 ** 40, 10 ** 40, True, False, None, "", "1", "n", (), (1,), [], [1], {}, {1: 1})


def state(desk):
    """All that a desk tells."""
    return desk.history(), desk.answers(), desk.stand(), desk.would(), desk.text()


def filled(service, items):
    """A desk with these items done."""
    desk = Desk(service)
    for item in items:
        if isinstance(item, str):
            desk.ask(item)
        else:
            desk.again(item)
    return desk


class Desks(unittest.TestCase):
    def check(self, desk, service, items):
        """Hold all that the desk tells against its items followed one by one."""
        history = tuple(items)
        self.assertEqual(desk.history(), history)
        self.assertIs(type(desk.history()), tuple)
        asked = [item if isinstance(item, str) else [new for new in items[:at] if isinstance(new, str)][-item]
                 for at, item in enumerate(items)]
        at, told = follow(service, 0, asked)
        self.assertEqual(desk.stand(), at)
        self.assertEqual(desk.answers(), told)
        alone = "".join(item for item in items if isinstance(item, str))
        self.assertEqual(desk.would(), follow(service, 0, alone)[1])
        lines = ["asks " + service[0], " ".join(["history", *map(str, items)]), ""]
        self.assertEqual(desk.text(), "\n".join(lines))
        # And against the other modules.
        self.assertEqual(desk.answers(), heard(service, history))
        self.assertEqual(desk.would(), answers(service, firsts(history)))
        self.assertEqual(desk.stand(), stand(service, "".join(asked)))

    def test_against_its_items_followed_one_by_one(self):
        source = random.Random(91)
        undone = {"ask": 0, "again": 0}
        for service in [LAMP, COUNT, TOGGLE, ring(4), *some_services(92, 12, "abc", 4, "wxyz")]:
            desk, items = Desk(service), []
            for _ in range(80):
                new = [item for item in items if isinstance(item, str)]
                act = source.choice(("ask", "ask", "again", "again", "undo"))
                before = desk.answers()
                if act == "ask" and len(items) < 60:
                    items.append(source.choice(service[0]))
                    self.assertEqual(before + desk.ask(items[-1]), desk.answers())
                elif act == "again" and new and len(items) < 60:
                    items.append(source.randrange(1, len(new) + 1))
                    self.assertEqual(before + desk.again(items[-1]), desk.answers())
                elif act == "undo" and items:
                    undone["ask" if isinstance(items.pop(), str) else "again"] += 1
                    desk.undo()
                self.check(desk, service, items)
            while items:
                items.pop()
                desk.undo()
                self.check(desk, service, items)
            self.assertEqual(state(desk), state(Desk(service)))
        self.assertGreater(min(undone.values()), 20)

    def test_a_new_desk(self):
        self.assertEqual(state(Desk(LAMP)), ((), "", 0, "", "asks nt\nhistory\n"))
        self.assertEqual(Desk(ring(40)).text(), "asks gnsz\nhistory\n")

    def test_answers_are_told_as_they_come(self):
        desk = Desk(TOGGLE)
        self.assertEqual([desk.ask("t"), desk.again(1), desk.again(1), desk.ask("t"), desk.again(2)], list("xyxyx"))
        self.assertEqual(state(desk), (("t", 1, 1, "t", 2), "xyxyx", 1, "xy", "asks t\nhistory t 1 1 t 2\n"))

    def test_the_ask_that_is_meant(self):
        desk = Desk(ring(3))
        for ask in "sgz":
            desk.ask(ask)
        self.assertEqual([desk.again(3), desk.stand()], ["o", 1])
        self.assertEqual([desk.again(3), desk.stand()], ["o", 2])
        self.assertEqual([desk.again(2), desk.stand()], ["y", 2])
        self.assertEqual([desk.again(1), desk.stand()], ["o", 0])

    def test_undo_behind_asks_and_behind_asks_that_came_again(self):
        desk = filled(TOGGLE, ("t", 1, "t"))
        self.assertIsNone(desk.undo())
        self.assertEqual(state(desk), (("t", 1), "xy", 0, "x", "asks t\nhistory t 1\n"))
        desk.undo()
        self.assertEqual(state(desk), (("t",), "x", 1, "x", "asks t\nhistory t\n"))
        desk.undo()
        self.assertEqual(state(desk), state(Desk(TOGGLE)))
        self.assertEqual(desk.ask("t"), "x")

    def test_there_is_nothing_to_take_back(self):
        desk = Desk(LAMP)
        for _ in range(2):
            with self.assertRaises(NothingDone):
                desk.undo()
            self.assertEqual(state(desk), state(Desk(LAMP)))
        desk.ask("n")
        desk.undo()
        with self.assertRaises(NothingDone):
            desk.undo()

    def test_values_that_are_no_asks(self):
        for items in ((), ("n",), ("n", 1, "t")):
            desk = filled(LAMP, items)
            before = state(desk)
            for value in NO_ASKS:
                with self.assertRaises(NoAsk, msg=repr(value)):
                    desk.ask(value)
                self.assertEqual(state(desk), before)

    def test_integers_that_are_none(self):
        for items in ((), ("n",), ("n", 1, "t"), ("t",) * 59 + (59,)):
            desk = filled(LAMP, items)
            before = state(desk)
            many = len(firsts(items))
            for value in NO_SUCH + (many + 1, many + 2):
                with self.assertRaises(NoSuch, msg=repr(value)):
                    desk.again(value)
                self.assertEqual(state(desk), before)

    def test_the_number_of_first_asks_is_one(self):
        desk = Desk(chain("abcdef"))
        for many in range(1, 21):
            self.assertEqual(desk.ask("a"), "abcdef"[(2 * many - 2) % 6])
            self.assertEqual(desk.again(many), "abcdef"[(2 * many - 1) % 6])
            with self.assertRaises(NoSuch):
                desk.again(many + 1)

    def test_sixty_items_and_the_61st(self):
        for items in (("t",) * 60, ("t",) + (1,) * 59, ("t", 1) * 30):
            desk = filled(TOGGLE, items)
            before = state(desk)
            self.assertEqual(before[0], items)
            for act in (lambda: desk.ask("t"), lambda: desk.again(1)):
                with self.assertRaises(TooLong) as caught:
                    act()
                self.assertEqual(caught.exception.most, 60)
                self.assertEqual(state(desk), before)
            desk.undo()
            self.assertEqual(desk.again(1), before[1][-1])
            desk.undo()
            self.assertEqual(desk.ask("t"), before[1][-1])

    def test_at_sixty_items_what_is_none_is_told_first(self):
        desk = filled(LAMP, ("t",) * 50 + (1,) * 10)
        before = state(desk)
        for value in NO_ASKS:
            with self.assertRaises(NoAsk, msg=repr(value)):
                desk.ask(value)
        for value in NO_SUCH + (51,):
            with self.assertRaises(NoSuch, msg=repr(value)):
                desk.again(value)
        with self.assertRaises(TooLong):
            desk.again(50)
        self.assertEqual(state(desk), before)

    def test_two_desks_of_one_service(self):
        one, other = Desk(LAMP), Desk(LAMP)
        one.ask("t")
        self.assertEqual(state(other), state(Desk(LAMP)))
        other.ask("n")
        other.again(1)
        one.undo()
        self.assertEqual(other.history(), ("n", 1))
        self.assertEqual(state(one), state(Desk(LAMP)))
        told = other.history()
        other.ask("t")
        self.assertEqual(told, ("n", 1))

    def test_any_values(self):
        for value in odd_values():
            if is_plain_service(value):
                self.assertEqual(Desk(value).history(), ())
                continue
            with self.assertRaises(BadService) as caught:
                Desk(value)
            self.assertIsInstance(caught.exception, ServiceError)
            desk = filled(DULL, ("n", "t", 2))
            before = state(desk)
            # A value may be an ask or an integer that means one.
            for act, right in ((desk.ask, ("n", "t")), (desk.again, (1, 2))):
                if type(value) in (str, int) and value in right:
                    self.assertEqual(act(value), "x")
                    desk.undo()
                else:
                    with self.assertRaises((NoAsk, NoSuch)):
                        act(value)
                self.assertEqual(state(desk), before)


if __name__ == "__main__":
    unittest.main()
