"""Promises 11 and 12: what clerks answer, what is wished, and which clerks are enough."""

import itertools
import unittest

from oftenasked.again import is_history
from oftenasked.clerks import clerk_breaks, clerked, does_serve, is_enough, wished
from oftenasked.errors import BadClerk, BadHistory, BadService, BadWindow
from oftenasked.services import is_service
from tests.plain import (COUNT, LAMP, TOGGLE, by_plain_clerk, by_plain_wish, chain, every_service, follow, histories,
                         ring, some_services)

BAD_CLERKS = ((0, 1), (42, 1), (-1, 1), (1, -1), (1, 42), (10 ** 40, 0), (1, 10 ** 40), (-10 ** 40, 0), (True, 1),
              (1, True), (1, False), (None, 1), (1, None), ("1", 1), (1, "1"), ((1,), 1), ([1], 1), (1, [1]), (1, {}),
              (), (1,), (1, 1, 1), [1, 1], {1: 1}, "11", None, True, 0, 1, "", [], {})
BAD_HISTORIES = (("t",) * 61, ("t",) + (1,) * 60, (0,), (1,), ("t", 2), ("t", 0), ("t", -1), ("t", True), ("t", None),
                 ("x",), ("tt",), ("",), ["t"], "t", None, True, 1, {}, {"t": 1}, [], (("t",),), (["t"],), ("t", [1]),
                 ("t", 10 ** 40))
LETTERS = chain("abcdefghijklmnopqrstuvwxyz")


class Clerked(unittest.TestCase):
    def test_against_the_words_followed_one_by_one(self):
        services = (LAMP, COUNT, ("ab", (((1, "x"), (2, "y")), ((2, "z"), (0, "u")), ((2, "v"), (1, "w")))))
        for service in services:
            for length in range(5):
                for history in histories(service[0], service[0], None, length):
                    self.assertEqual(wished(service, history), by_plain_wish(service, history))
                    for clerk in itertools.product((1, 2, 3, 41), (0, 1, 2, 41)):
                        told = by_plain_clerk(service, clerk, history)
                        self.assertEqual(clerked(service, clerk, history), told, (service, clerk, history))
                        self.assertIs(does_serve(service, clerk, history), told == by_plain_wish(service, history))

    def test_longer_histories_of_one_ask(self):
        for history in histories("a", "a", None, 6):
            self.assertEqual(wished(LETTERS, history), by_plain_wish(LETTERS, history))
            for clerk in ((1, 1), (2, 1), (2, 5), (3, 2), (3, 3), (4, 1), (5, 41)):
                self.assertEqual(clerked(LETTERS, clerk, history), by_plain_clerk(LETTERS, clerk, history))

    def test_no_items(self):
        self.assertEqual(clerked(LAMP, (1, 0), ()), ())
        self.assertEqual(wished(LAMP, ()), ())
        self.assertIs(does_serve(LAMP, (1, 0), ()), True)

    def test_nothing_comes_again(self):
        history = ("a",) * 60
        told = tuple(follow(LETTERS, 0, "a" * 60)[1])
        for clerk in ((1, 0), (41, 0), (1, 41), (41, 41), (7, 3)):
            self.assertEqual(clerked(LETTERS, clerk, history), told)
        self.assertEqual(wished(LETTERS, history), told)

    def test_numbers_come_round(self):
        self.assertEqual(clerked(LETTERS, (2, 1), ("a",) * 5 + (1,)), ("a", "b", "c", "d", "e", "e"))
        self.assertEqual(clerked(LETTERS, (3, 2), ("a",) * 7 + (2, 1)), ("a", "b", "c", "d", "e", "f", "g", "f", "g"))
        self.assertEqual(clerked(LETTERS, (41, 40), ("a",) * 45 + (40,))[-1], follow(LETTERS, 0, "a" * 6)[1][-1])

    def test_its_number_is_next_once_more(self):
        self.assertEqual(clerked(LETTERS, (2, 1), ("a", "a", 2)), ("a", "b", "c"))
        self.assertEqual(clerked(LETTERS, (1, 1), ("a", 1, 1)), ("a", "b", "c"))
        self.assertEqual(clerked(LETTERS, (41, 41), ("a",) * 41 + (41,))[-1], "p")
        self.assertEqual(wished(LETTERS, ("a",) * 41 + (41,))[-1], "a")
        # The next first ask has the number 0 again, but 1 is next by then: it is not handed on.
        self.assertEqual(clerked(LETTERS, (2, 1), ("a", "a", 2, "a", "a")), ("a", "b", "c", "c", "d"))
        self.assertEqual(clerked(LETTERS, (2, 0), ("a", "a", 2, "a", "a")), ("a", "b", "c", "", "d"))

    def test_the_ask_that_comes_again_is_handed_on(self):
        service = ("ab", (((1, "x"), (2, "y")), ((2, "z"), (0, "u")), ((2, "v"), (1, "w"))))
        self.assertEqual(clerked(service, (2, 1), ("b", "a", 2)), ("y", "v", "w"))
        self.assertEqual(clerked(service, (2, 1), ("b", "a", 2, "a")), ("y", "v", "w", "w"))

    def test_its_answer_is_kept_no_longer(self):
        self.assertEqual(clerked(LETTERS, (5, 1), ("a", "a", 2, 1)), ("a", "b", "", "b"))
        self.assertEqual(clerked(LETTERS, (5, 2), ("a", "a", 2, 1)), ("a", "b", "a", "b"))
        self.assertEqual(clerked(LETTERS, (5, 0), ("a", 1)), ("a", ""))
        self.assertEqual(clerked(LETTERS, (41, 40), ("a",) * 40 + (40,))[-1], "a")
        self.assertEqual(clerked(LETTERS, (41, 39), ("a",) * 40 + (40,))[-1], "")
        self.assertEqual(clerked(LETTERS, (41, 41), ("a",) * 40 + (40,))[-1], "a")

    def test_two_answers_are_kept_for_one_number(self):
        self.assertEqual(clerked(LETTERS, (2, 4), ("a",) * 3 + (1, 3)), ("a", "b", "c", "c", "c"))
        self.assertEqual(clerked(LETTERS, (2, 41), ("a",) * 5 + (1, 3, 5)), ("a", "b", "c", "d", "e", "e", "e", "e"))
        self.assertEqual(clerked(LETTERS, (2, 0), ("a",) * 3 + (1, 3)), ("a", "b", "c", "", ""))

    def test_answers_that_are_not_handed_on_are_not_kept(self):
        self.assertEqual(clerked(LETTERS, (5, 2), ("a", "a", 1, 1, 1, 2)), ("a", "b", "b", "b", "b", "a"))

    def test_sixty_items(self):
        self.assertEqual(clerked(LETTERS, (3, 1), ("a",) + (1,) * 59), ("a",) * 60)
        self.assertEqual(wished(LETTERS, ("a",) + (1,) * 59), ("a",) * 60)
        self.assertEqual(clerked(LETTERS, (1, 1), ("a",) + (1,) * 59), tuple(follow(LETTERS, 0, "a" * 60)[1]))

    def test_values_that_are_no_clerks(self):
        for clerk in BAD_CLERKS:
            for call in (lambda: clerked(LAMP, clerk, ()), lambda: does_serve(LAMP, clerk, ()),
                         lambda: is_enough(clerk, 1), lambda: clerk_breaks(clerk, 1)):
                with self.assertRaises(BadClerk, msg=repr(clerk)):
                    call()

    def test_clerks_at_the_edges(self):
        for clerk in ((1, 0), (1, 41), (41, 0), (41, 41)):
            self.assertEqual(clerked(LAMP, clerk, ("n",)), ("x",))
            self.assertIs(does_serve(LAMP, clerk, ("n",)), True)
            self.assertIs(is_enough(clerk, 0), True)

    def test_values_that_are_no_histories(self):
        for history in BAD_HISTORIES:
            for call in (lambda: clerked(LAMP, (1, 0), history), lambda: wished(LAMP, history),
                         lambda: does_serve(LAMP, (1, 0), history)):
                with self.assertRaises(BadHistory, msg=repr(history)):
                    call()

    def test_errors_in_order(self):
        for tell in (clerked, does_serve):
            with self.assertRaises(BadService):
                tell(None, None, None)
            with self.assertRaises(BadClerk):
                tell(LAMP, None, None)
        with self.assertRaises(BadService):
            wished(None, None)
        for tell in (is_enough, clerk_breaks):
            with self.assertRaises(BadClerk):
                tell(None, None)


class Wished(unittest.TestCase):
    def test_what_comes_again_changes_nothing(self):
        self.assertEqual(wished(TOGGLE, ("t", 1, "t", 1, 2, "t")), ("x", "x", "y", "y", "x", "x"))
        self.assertEqual(wished(LETTERS, ("a", "a", "a", 3, 1, 2, "a", 4)), tuple("abcacbda"))


class Enough(unittest.TestCase):
    def test_all_clerks_and_windows(self):
        for many in range(1, 42):
            for most in range(42):
                for window in range(41):
                    right = many > window and most >= window
                    self.assertIs(is_enough((many, most), window), right)
                    told = clerk_breaks((many, most), window)
                    if right:
                        self.assertIsNone(told)
                    else:
                        self.assertIs(type(told), tuple)
                        self.check_break((many, most), window, *told)

    def check_break(self, clerk, window, service, history):
        if not is_service(service) or not is_history(service, service[0], window, history):
            self.fail((clerk, window, service, history))
        if by_plain_clerk(service, clerk, history) == by_plain_wish(service, history):
            self.fail((clerk, window, service, history))
        self.assertIs(does_serve(service, clerk, history), False)

    def test_at_the_edges(self):
        self.assertIs(is_enough((41, 40), 40), True)
        self.assertIs(is_enough((41, 41), 40), True)
        self.assertIs(is_enough((40, 40), 40), False)
        self.assertIs(is_enough((41, 39), 40), False)
        self.assertIs(is_enough((40, 41), 40), False)
        self.assertIs(is_enough((1, 0), 0), True)
        self.assertIs(is_enough((1, 0), 1), False)
        self.assertIs(is_enough((1, 1), 1), False)
        self.assertIs(is_enough((2, 0), 1), False)
        self.assertIs(is_enough((2, 1), 1), True)

    def test_enough_for_small_services_and_all_their_short_histories(self):
        services = list(every_service("a", 2, "xy")) + list(some_services(81, 4, "ab", 3, "xyz")) + [LAMP, ring(3)]
        for service in services:
            length = {1: 6, 2: 5, 4: 3}[len(service[0])]
            for window in range(5):
                for history in histories(service[0], service[0], window, length):
                    for clerk in ((window + 1, window), (5, 4), (5, window), (window + 1, 5)):
                        if not does_serve(service, clerk, history):
                            self.fail((service, clerk, history))

    def test_where_it_is_not_enough_some_short_history_of_that_window_shows_it(self):
        for many in range(1, 6):
            for most in range(6):
                for window in range(5):
                    shown = any(not does_serve(LETTERS, (many, most), history)
                                for history in histories("a", "a", window, window + 1))
                    self.assertIs(is_enough((many, most), window), not shown, (many, most, window))
                    self.assertIs(clerk_breaks((many, most), window) is None, not shown, (many, most, window))

    def test_windows_that_are_none(self):
        for window in (None, -1, 41, True, False, 10 ** 40, -10 ** 40, "1", "", (), (1,), [], {}, [1], {1: 1}):
            for clerk in ((1, 0), (41, 41), (3, 1)):
                for tell in (is_enough, clerk_breaks):
                    with self.assertRaises(BadWindow, msg=repr(window)):
                        tell(clerk, window)


if __name__ == "__main__":
    unittest.main()
