"""Promises 2 and 3: services, what they answer, which stands and services are alike."""

import unittest

from oftenasked.errors import BadRow, BadService, Unlike
from oftenasked.services import answers, are_alike, is_service, least, parting, stand, stands_come_to
from tests.plain import (COUNT, DULL, LAMP, TOGGLE, chain, come_to_by_rows, every_service, first_unlike, follow, ring,
                         rows_of, some_services)


def idle(asks, many):
    """A service whose asks lead nowhere."""
    return (asks, tuple(tuple((at, "x") for _ in asks) for at in range(many)))


def samples():
    """Small services of many shapes."""
    yield from every_service("ab", 2, "xy")
    yield from every_service("t", 3, "xy")
    yield from some_services(31, 150, "abc", 4, "xy")
    yield from some_services(32, 100, "az", 6, "xxxy")
    yield from some_services(33, 40, "abcd", 7, "xyz")


class IsService(unittest.TestCase):
    def test_right_ones(self):
        for value in (LAMP, DULL, COUNT, TOGGLE, ring(40)):
            self.assertIs(is_service(value), True)

    def test_one_to_four_asks(self):
        for asks in ("a", "z", "az", "abc", "abcd", "mnyz"):
            self.assertIs(is_service(idle(asks, 2)), True, asks)

    def test_asks_that_are_none(self):
        for asks in ("", "abcde", "ba", "aa", "abb", "acb", "A", "aB", "a ", " a", "a\n", "1", "\u00e9", "a\u00e9",
                     "\u0430", "{", "`"):
            self.assertIs(is_service(idle(asks, 2)), False, asks)

    def test_asks_of_another_kind(self):
        for asks in (None, True, 1, ("a",), ["a"], {"a": 1}, ("a", "b")):
            self.assertIs(is_service((asks, (((0, "x"),),))), False, asks)

    def test_one_to_forty_stands(self):
        for many in range(1, 41):
            self.assertIs(is_service(idle("ab", many)), True, many)

    def test_too_few_and_too_many_stands(self):
        self.assertIs(is_service(("a", ())), False)
        self.assertIs(is_service(idle("a", 41)), False)
        self.assertIs(is_service(idle("abcd", 60)), False)

    def test_next_stands_at_the_edges(self):
        for after, right in ((0, True), (1, True), (2, True), (3, False), (-1, False), (-3, False), (10 ** 50, False),
                             (-10 ** 50, False), (True, False), (False, False), (None, False), ("0", False),
                             ((0,), False), ([0], False)):
            rows = (((0, "x"),), ((after, "x"),), ((2, "x"),))
            self.assertIs(is_service(("a", rows)), right, after)

    def test_answers_are_one_small_letter(self):
        for answer, right in (("a", True), ("z", True), ("", False), ("xy", False), ("X", False), ("1", False),
                              (" ", False), ("\u00e9", False), (None, False), (0, False), (True, False),
                              (("x",), False), (["x"], False), ({"x": 1}, False)):
            self.assertIs(is_service(("a", (((0, answer),),))), right, answer)

    def test_each_stand_has_a_pair_for_each_ask(self):
        pair = (0, "x")
        for parts in ((), (pair,), (pair, pair, pair), [pair, pair], pair, None, 0, "xx", {0: pair, 1: pair}):
            self.assertIs(is_service(("ab", ((pair, pair), parts))), False, parts)

    def test_each_pair_is_one(self):
        for pair in ((), (0,), (0, "x", "x"), [0, "x"], ("x", 0), "0x", None, 0, {0: "x", 1: "y"}, ((0, "x"),)):
            self.assertIs(is_service(("ab", (((0, "x"), pair),))), False, pair)

    def test_values_of_other_shapes(self):
        asks, rows = LAMP
        for value in ((), (asks,), (asks, rows, rows), [asks, rows], (rows, asks), (asks, list(rows)), {asks: rows},
                      (asks, rows[0]), (asks, [rows]), asks, rows, (asks, "nt"), (asks, None), (None, rows),
                      (asks, tuple(list(parts) for parts in rows)), (asks, {0: rows[0], 1: rows[1]})):
            self.assertIs(is_service(value), False, value)


class Rows(unittest.TestCase):
    def test_answers_and_stand_against_a_plain_walk(self):
        for service in samples():
            for row in list(rows_of(service[0], 3)) + [(service[0] * 60)[:60]]:
                self.assertEqual((stand(service, row), answers(service, row)), follow(service, 0, row))

    def test_the_row_of_no_asks(self):
        self.assertEqual(answers(LAMP, ""), "")
        self.assertEqual(stand(LAMP, ""), 0)

    def test_sixty_asks_are_a_row_61_are_none(self):
        self.assertEqual(answers(TOGGLE, "t" * 60), "xy" * 30)
        self.assertEqual(stand(TOGGLE, "t" * 59), 1)
        for tell in (answers, stand):
            with self.assertRaises(BadRow):
                tell(TOGGLE, "t" * 61)
            with self.assertRaises(BadRow):
                tell(TOGGLE, "t" * 5000)

    def test_rows_with_what_is_no_ask(self):
        for row in ("x", "tx", "T", "n t", "n\n", "nt1", "\u00e9", None, 0, True, ("n",), ["n", "t"], {"n": 1}, b"n"):
            for tell in (answers, stand):
                with self.assertRaises(BadRow):
                    tell(LAMP, row)


class StandsComeTo(unittest.TestCase):
    def test_stands_that_no_row_leads_to_are_left_out(self):
        rows = (((2, "x"), (0, "x")), ((0, "x"), (3, "x")), ((2, "x"), (2, "x")), ((1, "x"), (1, "x")))
        self.assertEqual(stands_come_to(("ab", rows)), (0, 2))

    def test_they_ascend_however_they_are_come_to(self):
        self.assertEqual(stands_come_to(("a", (((3, "x"),), ((0, "x"),), ((1, "x"),), ((2, "x"),)))), (0, 1, 2, 3))

    def test_the_stand_0_is_always_come_to(self):
        self.assertEqual(stands_come_to(idle("ab", 5)), (0,))
        self.assertEqual(stands_come_to(DULL), (0,))

    def test_all_of_forty(self):
        self.assertEqual(stands_come_to(ring(40)), tuple(range(40)))

    def test_against_all_rows(self):
        for service in samples():
            if len(service[0]) < 4:
                self.assertEqual(stands_come_to(service), tuple(sorted(come_to_by_rows(service))))


class Least(unittest.TestCase):
    def check(self, service):
        small = least(service)
        self.assertTrue(is_service(small))
        self.assertEqual(small[0], service[0])
        self.assertIsNone(first_unlike(service, 0, small, 0))
        for here in range(len(small[1])):
            for there in range(here):
                self.assertIsNotNone(first_unlike(small, here, small, there))
        # Numbered as they are come to: read stand by stand and ask by ask, each new number is the next one.
        highest = 0
        for at, parts in enumerate(small[1]):
            self.assertLessEqual(at, highest)
            for after, _ in parts:
                self.assertLessEqual(after, highest + 1)
                highest = max(highest, after)
        self.assertEqual(highest, len(small[1]) - 1)

    def test_small_services(self):
        for service in samples():
            self.check(service)

    def test_services_of_forty_stands(self):
        for service in some_services(34, 3, "abcd", 40, "xy"):
            self.check(service)
        self.check(ring(40))
        self.assertEqual(least(ring(40)), ring(40))

    def test_services_of_one_stand_are_least(self):
        for service in (DULL, ("abcd", (((0, "a"), (0, "b"), (0, "c"), (0, "a")),))):
            self.assertEqual(least(service), service)

    def test_forty_alike_stands_become_one(self):
        turning = ("ab", tuple((((at + 1) % 40, "x"), ((at + 7) % 40, "y")) for at in range(40)))
        self.assertEqual(least(turning), ("ab", (((0, "x"), (0, "y")),)))

    def test_stands_that_no_row_leads_to_are_left_out(self):
        self.assertEqual(least(("a", (((0, "x"),), ((0, "y"),)))), ("a", (((0, "x"),),)))

    def test_alike_stands_become_one(self):
        twofold = ("a", (((1, "x"),), ((2, "y"),), ((3, "x"),), ((0, "y"),)))
        self.assertEqual(least(twofold), ("a", (((1, "x"),), ((0, "y"),))))

    def test_stands_are_told_apart_by_long_rows_too(self):
        told = "x" * 39 + "y"
        self.assertEqual(least(chain(told)), chain(told))
        self.assertEqual(least(chain("xxxy" * 10)), chain("xxxy"))

    def test_numbers_as_they_are_come_to(self):
        mixed = ("ab", (((2, "x"), (3, "y")), ((1, "z"), (0, "x")), ((1, "y"), (2, "x")), ((3, "z"), (3, "z"))))
        wished = ("ab", (((1, "x"), (2, "y")), ((3, "y"), (1, "x")), ((2, "z"), (2, "z")), ((3, "z"), (0, "x"))))
        self.assertEqual(least(mixed), wished)

    def test_it_is_one_for_all_services_alike(self):
        for service in samples():
            self.assertEqual(least(least(service)), least(service))


class AlikeAndParting(unittest.TestCase):
    def test_small_services_against_all_rows(self):
        small = list(every_service("ab", 2, "xy"))[::9]
        rows = list(rows_of("ab", 4))
        for one in small:
            for other in small:
                unlike = [row for row in rows if follow(one, 0, row)[1] != follow(other, 0, row)[1]]
                self.assertIs(are_alike(one, other), not unlike)
                self.assertEqual(parting(one, other), unlike[0] if unlike else None)

    def test_services_of_unlike_sizes(self):
        for one, other in zip(some_services(35, 60, "abc", 5, "xxxy"), some_services(36, 60, "abc", 8, "xxxy")):
            row = first_unlike(one, 0, other, 0)
            self.assertEqual(parting(one, other), row)
            self.assertEqual(parting(other, one), row)
            self.assertIs(are_alike(one, other), row is None)

    def test_services_that_are_alike(self):
        for service in samples():
            self.assertIs(are_alike(service, least(service)), True)
            self.assertIsNone(parting(service, least(service)))
        self.assertIs(are_alike(chain("xy"), chain("xyxyxy")), True)
        self.assertIsNone(parting(chain("xy"), chain("xyxyxy")))

    def test_what_no_row_leads_to_does_not_matter(self):
        self.assertIs(are_alike(("a", (((0, "x"),), ((0, "y"),))), ("a", (((0, "x"),),))), True)

    def test_the_shortest_row_comes_ahead_of_a_smaller_text(self):
        one = ("ab", (((0, "x"), (0, "x")), ((1, "x"), (1, "x"))))
        other = ("ab", (((1, "x"), (0, "y")), ((1, "y"), (1, "x"))))
        self.assertEqual(parting(one, other), "b")

    def test_of_rows_of_one_length_the_least_text(self):
        one = ("ab", (((0, "x"), (0, "x")),))
        other = ("ab", (((1, "x"), (2, "x")), ((1, "x"), (1, "y")), ((2, "y"), (2, "x"))))
        self.assertEqual(parting(one, other), "ab")

    def test_a_parting_row_can_be_longer_than_rows_that_are_passed(self):
        one, other = chain("x" * 38 + "yx"), chain("x" * 38 + "y")
        self.assertEqual(parting(one, other), "a" * 78)
        self.assertEqual(parting(other, one), "a" * 78)
        self.assertIs(are_alike(one, other), False)

    def test_services_with_unlike_asks(self):
        for one, other in ((LAMP, COUNT), (LAMP, TOGGLE), (TOGGLE, LAMP), (idle("ab", 1), idle("ac", 1))):
            for tell in (are_alike, parting):
                with self.assertRaises(Unlike):
                    tell(one, other)

    def test_a_bad_service_is_told_ahead_of_unlike_asks(self):
        for tell in (are_alike, parting):
            with self.assertRaises(BadService):
                tell(LAMP, ("gs", ()))
            with self.assertRaises(BadService):
                tell(("gs", ()), LAMP)


if __name__ == "__main__":
    unittest.main()
