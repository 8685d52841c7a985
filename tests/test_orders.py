"""Promise 10: which asks may change places, and which rows are led to one another so."""

import itertools
import unittest

from oftenasked.errors import BadRow, BadService, NoAsk, Same
from oftenasked.orders import can_lead, may_swap, swaps
from tests.plain import COUNT, DULL, LAMP, TOGGLE, every_service, led_to, ring, rows_of, some_services, swaps_by_rows

# a and b change places freely, c tells what both did: a turns the first half, b the second one.
HALVES = ("abc", tuple(((2 * (1 - at // 2) + at % 2, "x"), (at - at % 2 + 1 - at % 2, "x"), (at, "wxyz"[at]))
                       for at in range(4)))
# a and b change places freely, and so do b and c, but not a and c.
CHAIN = ("abc", (((1, "x"), (0, "x"), (0, "o")), ((1, "x"), (1, "x"), (1, "p"))))
# All four may change places.
FREE = ("abcd", (((0, "x"), (0, "y"), (0, "x"), (0, "z")),))
BAD_ASKS = ("", "nt", "tn", "nn", "x", "N", "n ", "\u00e9", None, True, False, 0, 1, ("n",), ["n"], {"n": 1}, [], {}, ())


def samples():
    """Small services of many shapes, with asks that lead nowhere or to one stand in some."""
    yield from list(every_service("ab", 2, "xy"))[::2]
    yield from some_services(71, 40, "abc", 2, "xxy")
    yield from some_services(72, 60, "ab", 3, "xxxy")
    for asks, rows in some_services(73, 60, "abc", 2, "xxxy"):
        yield (asks, tuple(((at, parts[0][1]), (rows[0][1][0], "x"), parts[2]) for at, parts in enumerate(rows)))
    # A last stand that no row leads to does not matter, however it answers.
    for asks, rows in some_services(74, 40, "ab", 2, "xxxy"):
        yield (asks, rows + (((0, "y"), (1, "z")),))


def pairs(asks):
    return ["".join(pair) for pair in itertools.combinations(asks, 2)]


class MaySwap(unittest.TestCase):
    def test_against_all_rows(self):
        told = {True: 0, False: 0}
        for service in samples():
            free = []
            for one, other in pairs(service[0]):
                # Two asks behind each stand, and one more row that tells two stands apart.
                wished = swaps_by_rows(service, one, other, 6 if service[0] == "ab" else 5)
                told[wished] += 1
                self.assertIs(may_swap(service, one, other), wished, (service, one, other))
                self.assertIs(may_swap(service, other, one), wished, (service, one, other))
                free += [one + other] if wished else []
            self.assertEqual(swaps(service), tuple(free), service)
        self.assertGreater(min(told.values()), 30)

    def test_stands_alike_will_do(self):
        rows = (((1, "x"), (2, "y")), ((3, "x"), (3, "y")), ((0, "x"), (0, "y")), ((3, "x"), (3, "y")))
        self.assertIs(may_swap(("ab", rows), "a", "b"), True)

    def test_an_answer_that_changes(self):
        self.assertIs(may_swap(COUNT, "g", "s"), False)
        # Both lead to one stand, but the second one of the two is answered y.
        rows = (((1, "x"), (1, "x")), ((1, "y"), (1, "y")))
        self.assertIs(may_swap(("ab", rows), "a", "b"), False)
        # Only the answers of a change: b is answered alike in both orders.
        rows = (((0, "x"), (1, "o")), ((1, "y"), (1, "o")))
        self.assertIs(may_swap(("ab", rows), "a", "b"), False)
        self.assertIs(may_swap(("ab", tuple(parts[::-1] for parts in rows)), "a", "b"), False)

    def test_stands_that_change(self):
        self.assertIs(may_swap(LAMP, "n", "t"), False)
        rows = (((1, "x"), (2, "x"), (0, "x")), ((1, "x"), (2, "x"), (1, "y")), ((1, "x"), (2, "x"), (2, "x")))
        self.assertIs(may_swap(("abc", rows), "a", "b"), False)
        self.assertEqual(swaps(("abc", rows)), ())

    def test_stands_that_no_row_leads_to(self):
        idle = ((0, "x"), (0, "y"))
        self.assertEqual(swaps(("ab", (idle, ((0, "y"), (1, "x")), ((1, "x"), (0, "x"))))), ("ab",))
        self.assertEqual(swaps(("ab", (((0, "x"), (1, "y")), ((0, "y"), (1, "x"))))), ())

    def test_only_far_stands_tell(self):
        rows = tuple(((at, "x"), (at, "x"), (min(at + 1, 39), "x")) for at in range(39))
        last = ((38, "x"), (39, "y"), (39, "x"))
        self.assertIs(may_swap(("abc", rows + (last,)), "a", "b"), False)
        self.assertIs(may_swap(("abc", rows + (((39, "y"), (39, "y"), (39, "x")),)), "a", "b"), True)

    def test_swaps_in_order(self):
        self.assertEqual(swaps(FREE), ("ab", "ac", "ad", "bc", "bd", "cd"))
        self.assertEqual(swaps(HALVES), ("ab",))
        self.assertEqual(swaps(CHAIN), ("ab", "bc"))
        self.assertEqual(swaps(TOGGLE), ())
        self.assertEqual(swaps(DULL), ("nt",))
        self.assertEqual(swaps(ring(40)), ("gn", "ns", "nz"))

    def test_the_same_ask_twice(self):
        for ask in "nt":
            with self.assertRaises(Same):
                may_swap(LAMP, ask, ask)
        with self.assertRaises(Same):
            may_swap(TOGGLE, "t", "t")

    def test_values_that_are_no_asks(self):
        for value in BAD_ASKS:
            for one, other in ((value, "n"), ("n", value), (value, value), (value, "x"), ("x", value)):
                with self.assertRaises(NoAsk, msg=(one, other)):
                    may_swap(LAMP, one, other)
        with self.assertRaises(BadService):
            may_swap(("nt", ()), "n", "n")


class CanLead(unittest.TestCase):
    def test_against_all_changes_one_after_another(self):
        told = {True: 0, False: 0}
        for service in (HALVES, CHAIN, DULL, COUNT, ("abc", (((0, "x"),) * 3,))):
            asks = service[0]
            free = [pair for pair in pairs(asks) if swaps_by_rows(service, *pair, 5)]
            rows = list(rows_of(asks, 4 if len(asks) == 3 else 6))
            for row in rows:
                reached = led_to(row, free)
                for other in rows:
                    wished = other in reached
                    told[wished] += 1
                    if can_lead(service, row, other) is not wished:
                        self.fail((service, row, other))
        self.assertGreater(min(told.values()), 300)

    def test_longer_rows(self):
        for service in samples():
            asks = service[0]
            free = [pair for pair in pairs(asks) if swaps_by_rows(service, *pair, 5)]
            row = (asks[::-1] + asks) * 2 if len(asks) == 2 else asks[::-1] + asks
            reached = led_to(row, free)
            for other in sorted(set("".join(signs) for signs in itertools.permutations(row[:6])))[:60]:
                other = other + row[6:]
                self.assertIs(can_lead(service, row, other), other in reached, (service, row, other))

    def test_rows_of_unlike_length_and_of_unlike_asks(self):
        self.assertIs(can_lead(FREE, "ab", "abb"), False)
        self.assertIs(can_lead(FREE, "abb", "ab"), False)
        self.assertIs(can_lead(FREE, "aab", "abb"), False)
        self.assertIs(can_lead(FREE, "", "a"), False)
        self.assertIs(can_lead(FREE, "a", "b"), False)
        self.assertIs(can_lead(TOGGLE, "tt", "t"), False)
        self.assertIs(can_lead(FREE, "abcd", "dcba"), True)

    def test_empty_rows_and_one_row_twice(self):
        for service in (LAMP, FREE, TOGGLE):
            self.assertIs(can_lead(service, "", ""), True)
            self.assertIs(can_lead(service, service[0] * 3, service[0] * 3), True)

    def test_neighbours_that_may_not_change_places(self):
        # Behind s both orders of g and s are answered alike, but not in every row.
        self.assertIs(can_lead(COUNT, "sgs", "ssg"), False)
        self.assertIs(can_lead(LAMP, "nt", "tn"), False)
        self.assertIs(can_lead(CHAIN, "ac", "ca"), False)
        self.assertIs(can_lead(CHAIN, "abc", "bac"), True)
        self.assertIs(can_lead(CHAIN, "abc", "acb"), True)
        self.assertIs(can_lead(CHAIN, "abc", "cab"), False)
        self.assertIs(can_lead(CHAIN, "bacb", "acbb"), True)

    def test_sixty_asks_are_a_row_61_are_none(self):
        self.assertIs(can_lead(DULL, "nt" * 30, "n" * 30 + "t" * 30), True)
        self.assertIs(can_lead(LAMP, "nt" * 30, "nt" * 30), True)
        self.assertIs(can_lead(LAMP, "nt" * 30, "nt" * 29 + "tn"), False)
        for row, other in (("n" * 61, "n"), ("n", "n" * 61), ("n" * 61, "n" * 61), ("n" * 60, "n" * 61)):
            with self.assertRaises(BadRow):
                can_lead(LAMP, row, other)

    def test_values_that_are_no_rows(self):
        for value in ("x", "nx", "N", "n t", None, True, 0, (), ("n",), ["n"], {}, {"n": 1}):
            for row, other in ((value, "n"), ("n", value), (value, value)):
                with self.assertRaises(BadRow, msg=(row, other)):
                    can_lead(LAMP, row, other)


if __name__ == "__main__":
    unittest.main()
