"""Promises 6, 8 and 9: least histories that show what is broken, papers, second answers."""

import itertools
import unittest

from oftenasked.errors import BadLot, BadService, BadWindow, NotBorne, TooMany
from oftenasked.papers import answers_again, broken, judged, paper, second_broken
from oftenasked.services import least, stand
from tests.plain import (COUNT, DULL, LAMP, TOGGLE, again_unlike, answers_again_by_search, bears_by_search,
                         broken_by_search, every_service, first_unlike, follow, histories, late_wheel, lots_of,
                         may_come, once_told, one_integer, ring, second_by_search, shows_unlike, some_services, wheel)

WINDOWS = (0, 1, 2, 3, None)


def mild(seed, count, asks, many):
    """Services whose first ask does nothing and whose last one leads to one stand from all but a few."""
    for _, rows in some_services(seed, count, asks, many, "xxy"):
        yield (asks, tuple(((at, parts[0][1]), *parts[1:-1], (rows[0][-1][0] if at < many - 1 else 0, parts[-1][1]))
                           for at, parts in enumerate(rows)))


def samples():
    """Small services of many shapes."""
    yield from list(every_service("ab", 2, "xy"))[::5]
    yield from some_services(51, 80, "ab", 3, "xxy")
    yield from some_services(52, 40, "abc", 3, "xxy")
    yield from mild(53, 60, "ab", 4)
    yield from mild(54, 60, "abc", 4)
    yield from mild(55, 30, "abc", 3)
    yield from (LAMP, DULL, COUNT, TOGGLE, ring(3), wheel(3), late_wheel(3), once_told(4))


def cases():
    """The samples with all their lots and some windows."""
    for service in samples():
        for lot in lots_of(service[0]):
            for window in WINDOWS:
                yield service, lot, window


class Broken(unittest.TestCase):
    def test_against_a_plain_search_in_order(self):
        lengths = set()
        for service, lot, window in cases():
            wished = broken_by_search(service, lot, window)
            self.assertEqual(broken(service, lot, window), wished, (service, lot, window))
            lengths.add(0 if wished is None else len(wished))
        self.assertLessEqual({0, 3, 4, 5, 6, 7}, lengths)

    def test_the_plain_search_goes_in_order(self):
        told = list(one_integer("ab", "ab", None, 3))
        self.assertEqual(told[:4], [("a", 1, "a"), ("a", "a", 1), ("a", "a", 2), ("a", 1, "b")])
        self.assertEqual(list(one_integer("ab", "b", 1, 3)),
                         [("a", "b", 1), ("b", 1, "a"), ("b", 1, "b"), ("b", "b", 1)])

    def test_nothing_is_broken_where_nothing_comes_again(self):
        for service in (LAMP, TOGGLE, ring(40), wheel(40)):
            for window in (0, 1, 40, None):
                self.assertIsNone(broken(service, "", window))
            self.assertIsNone(broken(service, service[0], 0))

    def test_fewest_items_come_ahead_of_a_smaller_text(self):
        self.assertEqual(broken(("ab", (((0, "x"), (1, "x")), ((1, "x"), (0, "y")))), "b", None), ("b", 1, "b"))

    def test_of_these_the_least_text(self):
        self.assertEqual(broken(LAMP, "nt", 2), ("t", 1, "t"))
        self.assertEqual(broken(("ab", (((1, "x"), (1, "x")), ((0, "y"), (0, "y")))), "ab", None), ("a", 1, "a"))
        self.assertEqual(broken(("ab", (((1, "x"), (1, "x")), ((0, "y"), (0, "y")))), "b", None), ("b", 1, "a"))

    def test_of_these_the_one_whose_integer_stands_first(self):
        # Both ("b", 1, "b", "a") and ("b", "b", 1, "a") show it.
        rows = (((0, "x"), (1, "x")), ((1, "x"), (2, "x")), ((2, "x"), (3, "x")), ((3, "y"), (3, "x")))
        history = broken(("ab", rows), "b", None)
        self.assertEqual(history, ("b", 1, "b", "a"))
        self.assertTrue(shows_unlike(("ab", rows), ("b", "b", 1, "a")))

    def test_of_these_the_least_integer(self):
        # Behind a and b both lead back to 0, so that each of them can come again to show it.
        service = ("ab", (((1, "x"), (0, "x")), ((1, "x"), (2, "x")), ((0, "y"), (0, "x"))))
        self.assertTrue(shows_unlike(service, ("a", "b", 2, "a")))
        self.assertEqual(broken(service, "ab", None), ("a", "b", 1, "a"))
        self.assertEqual(broken(service, "a", None), ("a", "b", 2, "a"))
        self.assertEqual(broken(service, "b", None), ("a", "b", 1, "a"))

    def test_the_window_is_kept(self):
        self.assertEqual(broken(LAMP, "n", 2), ("n", "t", 2, "t"))
        self.assertEqual(broken(LAMP, "n", None), ("n", "t", 2, "t"))
        self.assertEqual(broken(LAMP, "n", 40), ("n", "t", 2, "t"))
        self.assertIsNone(broken(LAMP, "n", 1))

    def test_stands_alike_do_not_show_anything(self):
        self.assertIsNone(broken(("a", (((1, "x"),), ((0, "x"),))), "a", None))

    def test_sixty_items_are_told(self):
        wished = ("a",) * 28 + ("b", "a", 2) + ("a",) * 29
        self.assertEqual(len(wished), 60)
        for window in (2, 3, 40, None):
            self.assertEqual(broken(wheel(30), "b", window), wished)
            self.assertEqual(paper(wheel(30), "b", window), ("broken", wished))
        self.assertIs(judged(wheel(30), "b", 2, ("broken", wished)), True)

    def test_more_are_too_many(self):
        for service in (late_wheel(30), wheel(31), wheel(40), late_wheel(39)):
            for window in (2, 40, None):
                for tell in (broken, paper):
                    with self.assertRaises(TooMany) as caught:
                        tell(service, "b", window)
                    self.assertEqual(caught.exception.most, 60)
            self.assertIsNone(broken(service, "b", 1))
            self.assertEqual(broken(service, "ab", 2), broken(service, "a", 1))

    def test_fifty_nine_items(self):
        history = broken(late_wheel(29), "b", None)
        self.assertEqual(history, ("a",) * 28 + ("b", "a", 2) + ("a",) * 28)

    def test_forty_stands_with_four_asks(self):
        self.assertEqual(broken(ring(40), "z", 2), ("z", "s", 2) + ("s",) * 38 + ("g",))
        self.assertEqual(broken(ring(40), "gnsz", None), ("s", 1) + ("s",) * 37 + ("g",))
        self.assertIsNone(broken(ring(40), "gn", None))


class Paper(unittest.TestCase):
    def test_what_is_told_and_that_it_is_judged_true(self):
        words = set()
        for service, lot, window in cases():
            told = paper(service, lot, window)
            words.add(told[0])
            self.assertIs(type(told), tuple)
            self.assertIs(judged(service, lot, window, told), True, (service, lot, window))
            history = broken_by_search(service, lot, window)
            if history is not None:
                self.assertEqual(told, ("broken", history))
                continue
            self.assertEqual(told[0], "bears")
            self.assertEqual(len(told[1]), len(service[1]))
            self.check_classes(service, told[1])
        self.assertEqual(words, {"bears", "broken"})

    def check_classes(self, service, classes):
        small = least(service)
        met = {0}
        while True:
            more = {after for at in met for after, _ in service[1][at]} | met
            if more == met:
                break
            met = more
        for at, number in enumerate(classes):
            if at not in met:
                self.assertIsNone(number)
            else:
                self.assertIs(type(number), int)
                self.assertIsNone(first_unlike(service, at, small, number))

    def test_the_numbers_are_those_of_the_least_service(self):
        # 0 and 3 are alike, and so are 1 and 2; no row leads to 4, which is like 0.
        rows = (((2, "x"),), ((0, "y"),), ((3, "y"),), ((1, "x"),), ((1, "x"),))
        self.assertEqual(paper(("a", rows), "", None), ("bears", (0, 1, 1, 0, None)))
        rows = (((2, "x"), (0, "x")), ((1, "x"), (2, "y")), ((1, "y"), (2, "x")))
        self.assertEqual(paper(("ab", rows), "", None), ("bears", (0, 2, 1)))

    def test_forty_stands(self):
        self.assertEqual(paper(ring(40), "z", 1), ("bears", tuple(range(40))))
        self.assertEqual(paper(("a", tuple(((39 - at, "x"),) for at in range(40))), "a", None),
                         ("bears", (0,) + (None,) * 38 + (0,)))


def is_shown_by_words(service, lot, window, value):
    """Whether any value is a paper that shows what it tells, word by word; for services of at most three stands."""
    if type(value) is not tuple or len(value) != 2:
        return False
    if value[0] == "broken":
        return (value[1] in [history for length in range(5) for history in histories(service[0], lot, window, length)]
                and shows_unlike(service, value[1]))
    asks, rows = service
    classes = value[1]
    if value[0] != "bears" or type(classes) is not tuple or len(classes) != len(rows) or classes[0] is None:
        return False
    if any(number is not None and (type(number) is not int or number < 0) for number in classes):
        return False
    for one, (parts, number) in enumerate(zip(rows, classes)):
        if number is None:
            continue
        if any(classes[after] is None for after, _ in parts):
            return False
        for other, more in zip(rows, classes):
            if more == number:
                for (after, answer), (later, reply) in zip(parts, other):
                    if answer != reply or classes[after] != classes[later]:
                        return False
    for ask in lot:
        for at in may_come(service, ask, window, 2 * len(rows)):
            if classes[follow(service, at, ask)[0]] != classes[at]:
                return False
    return True


class Judged(unittest.TestCase):
    def test_all_small_classes_by_the_words(self):
        told = {}
        services = list(every_service("ab", 2, "xy"))[::11] + [LAMP, COUNT, DULL, wheel(3), once_told(3)]
        services += list(some_services(61, 12, "ab", 3, "xxxxy")) + list(mild(62, 12, "ab", 3))
        for service in services:
            for lot in lots_of(service[0])[1:]:
                for window in (0, 1, 2, None):
                    for classes in itertools.product((None, 0, 1, 2), repeat=len(service[1])):
                        value = ("bears", classes)
                        wished = is_shown_by_words(service, lot, window, value)
                        told[wished] = told.get(wished, 0) + 1
                        self.assertIs(judged(service, lot, window, value), wished, (service, lot, window, value))
        self.assertGreater(min(told[True], told[False]), 100)

    def test_all_short_histories_by_the_words(self):
        told = {}
        for service in (LAMP, COUNT, wheel(3), ("ab", (((0, "x"), (1, "x")), ((0, "x"), (1, "y"))))):
            for lot in lots_of(service[0]):
                for window in (0, 1, 2, None):
                    right = set(history for length in range(5)
                                for history in histories(service[0], lot, window, length))
                    for length in range(5):
                        for history in histories(service[0], service[0], None, length):
                            wished = history in right and shows_unlike(service, history)
                            told[wished] = told.get(wished, 0) + 1
                            self.assertIs(judged(service, lot, window, ("broken", history)), wished)
        self.assertGreater(min(told[True], told[False]), 100)

    def test_classes_other_than_those_of_paper(self):
        for classes in ((0, 1), (1, 0), (7, 3), (10 ** 40, 0)):
            self.assertIs(judged(LAMP, "n", 1, ("bears", classes)), True, classes)
        # Alike stands may have numbers of their own, and a stand that no row leads to may have one.
        rows = (((0, "x"), (1, "x")), ((1, "x"), (0, "x")), ((2, "x"), (1, "x")), ((2, "y"), (2, "y")))
        for classes in ((0, 0, None, None), (0, 1, None, None), (4, 4, 4, None), (4, 4, 4, 5), (0, 1, 0, None),
                        (0, 1, 0, 2), (0, 1, 2, 3), (0, 1, None, 0), (0, 0, 1, 1)):
            wished = classes not in ((0, 1, None, 0), (0, 0, 1, 1))
            self.assertIs(judged(("ab", rows), "a", None, ("bears", classes)), wished, classes)
            # Here b comes again: it leads from 0 to 1 and back, so they need one number.
            self.assertIs(judged(("ab", rows), "b", None, ("bears", classes)), wished and classes[0] == classes[1])

    def test_bent_classes(self):
        service = ("ab", (((1, "x"), (0, "x")), ((2, "y"), (1, "x")), ((0, "x"), (2, "y")), ((3, "x"), (0, "y"))))
        right = (0, 1, 2, None)
        self.assertEqual(paper(service, "b", None), ("bears", right))
        for at in range(3):
            for bent in (None, True, False, -1, 0, 1, 2, 3, "0", "", (), (0,), [0], {}):
                classes = right[:at] + (bent,) + right[at + 1:]
                wished = type(bent) is int and bent >= 0 and bent not in right[:at] + right[at + 1:]
                self.assertIs(judged(service, "b", None, ("bears", classes)), wished, classes)
        for bent, wished in ((3, True), (10 ** 30, True), (0, False), (2, False), (True, False), (-1, False),
                             ("x", False), ([], False), ({}, False), ((), False)):
            self.assertIs(judged(service, "b", None, ("bears", right[:3] + (bent,))), wished, bent)

    def test_bent_shapes(self):
        right = paper(LAMP, "n", 1)
        for bent in ((), right[:1], right + (None,), list(right), right[::-1], right[1], right[0], None, True, 0, "",
                     "bears", {"bears": right[1]}, ("bears", list(right[1])), ("bears", right[1][:1]), ("bears", ()),
                     ("bears", right[1] + (None,)), ("bears", right[1] + (1,)), ("bears", None), ("bears", 0),
                     ("bears", "01"), ("bears", {0: 0, 1: 1}), ("Bears", right[1]), ("bear", right[1]),
                     ("", right[1]), (None, right[1]), (True, right[1]), (("bears",), right[1]), (["bears"], right[1]),
                     ({}, right[1]), ("broken", right[1]), ("broken", ()), ("broken", None), ("broken", 1)):
            self.assertIs(judged(LAMP, "n", 1, bent), False, bent)
        right = paper(LAMP, "n", 2)
        self.assertEqual(right, ("broken", ("n", "t", 2, "t")))
        for bent in (list(right), right + right, right[1:], ("broken", list(right[1])), ("bears", right[1]),
                     ("Broken", right[1]), (None, right[1]), ("broken", "nt2t"), ("broken", [*right[1]]),
                     ("broken", {"n": 1}), ("broken", (right[1],)), (right[1], "broken")):
            self.assertIs(judged(LAMP, "n", 2, bent), False, bent)

    def test_bent_histories(self):
        right = ("n", "t", 2, "t")
        self.assertIs(judged(LAMP, "n", 2, ("broken", right)), True)
        for at in range(4):
            for bent in ("n", "t", "x", "", "tt", None, True, False, 0, 1, 2, 3, -1, 10 ** 30, (), [], {}, ("n",)):
                history = right[:at] + (bent,) + right[at + 1:]
                wished = is_shown_by_words(LAMP, "n", 2, ("broken", history))
                self.assertIs(judged(LAMP, "n", 2, ("broken", history)), wished and history == right, history)

    def test_histories_of_another_lot_or_window(self):
        self.assertIs(judged(LAMP, "n", 1, ("broken", ("n", "t", 2, "t"))), False)
        self.assertIs(judged(LAMP, "n", 0, ("broken", ("n", "t", 2, "t"))), False)
        self.assertIs(judged(LAMP, "t", 2, ("broken", ("n", "t", 2, "t"))), False)
        self.assertIs(judged(LAMP, "", 2, ("broken", ("n", "t", 2, "t"))), False)
        self.assertIs(judged(LAMP, "nt", None, ("broken", ("n", "t", 2, "t"))), True)
        self.assertIs(judged(LAMP, "n", 40, ("broken", ("n", "t", 2, "t"))), True)

    def test_histories_that_show_nothing(self):
        for history in ((), ("n",), ("t", "t"), ("t", 1), ("t", 1, "n"), ("t", "t", 1, 2), ("t", 1, 1, "t")):
            self.assertIs(judged(LAMP, "nt", None, ("broken", history)), False, history)

    def test_histories_with_several_integers(self):
        self.assertIs(judged(LAMP, "t", 1, ("broken", ("t", 1, 1, 1, "t"))), True)
        self.assertIs(judged(LAMP, "t", 1, ("broken", ("t", 1, 1, "t"))), False)
        self.assertIs(judged(LAMP, "t", 1, ("broken", ("t", 1, "t", 1, 1, "n", "t"))), True)
        self.assertIs(judged(LAMP, "nt", 2, ("broken", ("t", "n", 1, 2, 1, 2, "t"))), True)

    def test_histories_of_60_and_61_items(self):
        self.assertIs(judged(LAMP, "t", 1, ("broken", ("t", 1) + ("t",) * 58)), True)
        self.assertIs(judged(LAMP, "t", 1, ("broken", ("t", 1) + ("t",) * 59)), False)
        self.assertIs(judged(LAMP, "t", 1, ("broken", ("t",) + (1,) * 57 + ("t", "t"))), True)
        self.assertIs(judged(LAMP, "t", 1, ("broken", ("t",) + (1,) * 59 + ("t",))), False)

    def test_what_is_borne_is_not_shown_by_classes_in_a_greater_window(self):
        self.assertIs(judged(LAMP, "n", 1, ("bears", (0, 1))), True)
        self.assertIs(judged(LAMP, "n", 2, ("bears", (0, 1))), False)
        self.assertIs(judged(LAMP, "n", None, ("bears", (0, 1))), False)
        self.assertIs(judged(LAMP, "t", 0, ("bears", (0, 1))), True)
        self.assertIs(judged(LAMP, "t", 1, ("bears", (0, 1))), False)

    def test_never_both(self):
        for service in mild(63, 40, "ab", 3):
            for lot in lots_of("ab"):
                for window in WINDOWS:
                    classes = [value for value in itertools.product((None, 0, 1, 2), repeat=3)
                               if judged(service, lot, window, ("bears", value))]
                    self.assertEqual(bool(classes), bears_by_search(service, lot, window))

    def test_other_parameters_are_told_ahead_of_any_paper(self):
        for value in (None, ("bears", (0, 1)), [], {}):
            with self.assertRaises(BadService):
                judged((), "n", 1, value)
            with self.assertRaises(BadLot):
                judged(LAMP, "tn", 41, value)
            with self.assertRaises(BadWindow):
                judged(LAMP, "n", 41, value)


class Second(unittest.TestCase):
    def test_against_a_plain_search(self):
        told = set()
        for service, lot, window in cases():
            if not bears_by_search(service, lot, window):
                self.assertIs(answers_again(service, lot, window), False)
                with self.assertRaises(NotBorne):
                    second_broken(service, lot, window)
                continue
            wished = second_by_search(service, lot, window)
            self.assertIs(answers_again(service, lot, window), wished is None, (service, lot, window))
            self.assertEqual(second_broken(service, lot, window), wished, (service, lot, window))
            told.add((window, 0 if wished is None else len(wished)))
        self.assertLessEqual({(0, 0), (1, 2), (1, 3), (2, 3), (3, 4), (None, 0), (None, 2), (None, 4)}, told)

    def test_a_lot_that_is_not_borne(self):
        for lot, window in (("n", 2), ("t", 1), ("nt", None)):
            self.assertIs(answers_again(LAMP, lot, window), False)
            with self.assertRaises(NotBorne):
                second_broken(LAMP, lot, window)
        # Its least broken history has more than 60 items, but whether it is borne is told first.
        with self.assertRaises(NotBorne):
            second_broken(wheel(31), "b", None)
        with self.assertRaises(NotBorne):
            second_broken(wheel(30), "b", 2)

    def test_nothing_comes_again(self):
        for service in (LAMP, TOGGLE, COUNT, ring(40)):
            self.assertIs(answers_again(service, "", None), True)
            self.assertIs(answers_again(service, service[0], 0), True)
            self.assertIsNone(second_broken(service, "", None))
            self.assertIsNone(second_broken(service, service[0], 0))

    def test_borne_and_answered_unlike(self):
        self.assertIs(answers_again(COUNT, "gs", 1), True)
        self.assertIs(answers_again(COUNT, "gs", 2), False)
        self.assertIs(answers_again(COUNT, "gs", None), False)
        self.assertEqual(second_broken(COUNT, "gs", None), ("g", "s", 2))
        self.assertIsNone(second_broken(COUNT, "s", None))
        once = ("a", (((1, "x"),), ((1, "y"),)))
        self.assertIs(answers_again(once, "a", 1), False)
        self.assertEqual(second_broken(once, "a", None), ("a", 1))

    def test_which_first_ask_comes_again_matters(self):
        # a tells x at 0 and y at the others; b leads on. So the a asked at 0 comes again unlike, the later a alike.
        rows = (((0, "x"), (1, "o")), ((1, "y"), (1, "o")))
        self.assertEqual(second_broken(("ab", rows), "a", None), ("a", "b", 2))
        self.assertTrue(again_unlike(("ab", rows), ("a", "b", "a", 3)))
        self.assertFalse(again_unlike(("ab", rows), ("a", "b", "a", 1)))
        # b is answered unlike where c comes between it and the ask that comes again, but only behind an a.
        rows = (((1, "x"), (0, "x"), (0, "x")), ((1, "x"), (1, "x"), (2, "x")), ((2, "x"), (2, "y"), (2, "x")))
        self.assertEqual(second_broken(("abc", rows), "b", None), ("a", "b", "c", 2))
        self.assertEqual(second_broken(("abc", rows), "b", 3), ("a", "b", "c", 2))
        self.assertIsNone(second_broken(("abc", rows), "b", 1))

    def test_of_the_least_text_the_least_integer(self):
        # a and b, both asked at 0, come again unlike behind c: the text is ac or bc, the least one is told.
        rows = (((0, "x"), (0, "x"), (1, "o")), ((1, "y"), (1, "y"), (1, "o")))
        self.assertEqual(second_broken(("abc", rows), "abc", None), ("a", "c", 2))
        self.assertEqual(second_broken(("abc", rows), "bc", None), ("b", "c", 2))

        # Behind a and b both are answered unlike, and either may come again.
        rows = (((1, "x"), (3, "x")), ((1, "x"), (2, "x")), ((2, "y"), (2, "y")), ((3, "x"), (3, "x")))
        self.assertTrue(again_unlike(("ab", rows), ("a", "b", 2)))
        self.assertEqual(second_broken(("ab", rows), "ab", None), ("a", "b", 1))
        self.assertEqual(second_broken(("ab", rows), "a", None), ("a", "b", 2))

    def test_far_behind(self):
        told = second_broken(once_told(40), "b", None)
        self.assertEqual(told, ("a",) * 38 + ("b", "a", 2))
        self.assertIs(answers_again(once_told(40), "b", 1), True)
        self.assertEqual(stand(once_told(40), "a" * 38 + "ba"), 39)

    def test_the_search_tells_the_same_as_short_histories(self):
        for service in mild(64, 30, "ab", 2):
            for lot in lots_of("ab"):
                for window in WINDOWS:
                    if bears_by_search(service, lot, window):
                        wished = not any(again_unlike(service, history)
                                         for history in histories("ab", lot, window, 4))
                        self.assertIs(answers_again_by_search(service, lot, window), wished)
                        self.assertIs(answers_again(service, lot, window), wished)


if __name__ == "__main__":
    unittest.main()
