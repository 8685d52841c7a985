"""Promises 4, 5 and 7: histories, what a service bears, its greatest windows and parts."""

import unittest

from oftenasked.again import (bears, borne, firsts, greatest_part, harmful, heard, is_history, part, window_of)
from oftenasked.errors import BadHistory, BadLot, BadService, BadWindow, NoAsk
from oftenasked.services import least
from tests.plain import (COUNT, DULL, LAMP, TOGGLE, bears_by_ages, bears_by_histories, bears_by_search, every_service,
                         first_unlike, follow, greatest_by_search, histories, left_out, lots_of, ring, rows_of,
                         shows_unlike, some_services)

WINDOWS = (0, 1, 2, 3, None)
BAD_WINDOWS = (41, -1, True, False, 10 ** 40, -10 ** 40, "1", "", (1,), [], {}, [1])
BAD_LOTS = ("tn", "nn", "x", "ntx", "N", "n t", "\u00e9", None, True, 0, (), ("n",), ["n"], [], {}, {"n": 1})


def samples():
    """Small services of many shapes."""
    yield from list(every_service("ab", 2, "xy"))[::3]
    yield from some_services(41, 60, "ab", 4, "xy")
    yield from some_services(42, 40, "abc", 3, "xxxy")
    yield from some_services(43, 40, "abc", 5, "xxxxxxxy")
    # In these, asks mostly lead to one stand from wherever they are asked, so more is borne.
    for asks, rows in some_services(44, 60, "abc", 4, "xxxy"):
        yield (asks, tuple((rows[0][0], parts[1], (rows[0][2][0], parts[2][1])) for parts in rows))
    for asks, rows in some_services(45, 60, "abc", 4, "xxxy"):
        yield (asks, tuple(((at, parts[0][1]), parts[1], rows[0][2]) for at, parts in enumerate(rows)))


class Lots(unittest.TestCase):
    def test_empty_and_whole_lots(self):
        for lot in ("", "n", "t", "nt"):
            self.assertIs(is_history(LAMP, lot, None, ()), True)
            self.assertIn(bears(LAMP, lot, None), (True, False))

    def test_values_that_are_no_lots(self):
        for lot in BAD_LOTS:
            for call in (lambda: is_history(LAMP, lot, 1, ()), lambda: bears(LAMP, lot, 1),
                         lambda: window_of(LAMP, lot), lambda: part(LAMP, lot)):
                with self.assertRaises(BadLot, msg=repr(lot)):
                    call()


class Windows(unittest.TestCase):
    def test_from_0_to_40_and_for_ever(self):
        for window in (*range(41), None):
            self.assertIs(is_history(LAMP, "n", window, ()), True)
            self.assertIs(bears(LAMP, "n", window), window in (0, 1))
            self.assertEqual(borne(LAMP, window), "nt" if window == 0 else "n" if window == 1 else "")
            self.assertEqual(harmful(LAMP, window), "" if window == 0 else "t" if window == 1 else "nt")
            self.assertEqual(greatest_part(LAMP, window), "nt" if window == 0 else "n")

    def test_values_that_are_no_windows(self):
        for window in BAD_WINDOWS:
            for call in (lambda: is_history(LAMP, "n", window, ()), lambda: bears(LAMP, "n", window),
                         lambda: borne(LAMP, window), lambda: harmful(LAMP, window),
                         lambda: greatest_part(LAMP, window)):
                with self.assertRaises(BadWindow, msg=repr(window)):
                    call()


class IsHistory(unittest.TestCase):
    def test_against_all_histories_by_the_words(self):
        items = ("n", "t", 1, 2, 3)
        values = [()]
        for _ in range(4):
            values = values + [value + (item,) for value in values for item in items if len(value) < 4]
        values = sorted(set(values), key=repr)
        for lot in ("", "n", "t", "nt"):
            for window in WINDOWS:
                right = {value for length in range(5) for value in histories("nt", lot, window, length)}
                for value in values:
                    self.assertIs(is_history(LAMP, lot, window, value), value in right, (lot, window, value))

    def test_sixty_items_are_one_61_are_none(self):
        self.assertIs(is_history(LAMP, "t", None, ("t",) * 60), True)
        self.assertIs(is_history(LAMP, "t", None, ("t",) * 61), False)
        self.assertIs(is_history(LAMP, "t", None, ("t",) + (1,) * 59), True)
        self.assertIs(is_history(LAMP, "t", None, ("t",) + (1,) * 60), False)

    def test_integers_at_the_number_of_first_asks_and_beyond_it(self):
        for back, right in ((-1, False), (0, False), (1, True), (2, True), (3, False), (10 ** 40, False)):
            self.assertIs(is_history(LAMP, "nt", None, ("t", 1, 1, "n", back)), right, back)
        self.assertIs(is_history(LAMP, "nt", None, (1, "t")), False)
        self.assertIs(is_history(LAMP, "nt", None, ("t",) * 50 + (50,)), True)
        self.assertIs(is_history(LAMP, "nt", None, ("t",) * 50 + (51,)), False)

    def test_integers_at_the_window_and_beyond_it(self):
        for window in range(1, 41):
            self.assertIs(is_history(LAMP, "t", window, ("t",) * 45 + (window,)), True, window)
            self.assertIs(is_history(LAMP, "t", window, ("t",) * 45 + (window + 1,)), False, window)
        self.assertIs(is_history(LAMP, "t", 0, ("t", 1)), False)
        self.assertIs(is_history(LAMP, "t", 0, ("t", "n")), True)

    def test_only_asks_in_the_lot_come_again(self):
        self.assertIs(is_history(LAMP, "n", 2, ("t", "n", 1)), True)
        self.assertIs(is_history(LAMP, "n", 2, ("t", "n", 2)), False)
        self.assertIs(is_history(LAMP, "", 2, ("t", 1)), False)
        self.assertIs(is_history(LAMP, "", 2, ("t", "n")), True)

    def test_what_comes_again_is_no_first_ask(self):
        self.assertIs(is_history(LAMP, "t", 1, ("t", "n", 1)), False)
        self.assertIs(is_history(LAMP, "nt", 2, ("t", "n", 1, 1, 2)), True)
        self.assertIs(is_history(LAMP, "t", 2, ("t", "n", 2, 1)), False)

    def test_values_of_other_kinds(self):
        for value in (None, True, 0, 1, "t", "", [], ["t"], ["t", 1], {}, {"t": 1}, ("t", True), ("t", None),
                      ("t", "1"), ("t", (1,)), ("t", [1]), ("t", {}), ("tn",), ("",), ("x",), ("T",), ("\u00e9",),
                      (("t",),), (["t"],), ({"t": 1},), (None,), (True,), ("t", 1, [])):
            self.assertIs(is_history(LAMP, "nt", None, value), False, value)


class Heard(unittest.TestCase):
    def test_against_a_plain_walk(self):
        for service in (LAMP, COUNT, ring(5)):
            asks = service[0]
            for history in histories(asks, asks, None, 4):
                new = [item for item in history if isinstance(item, str)]
                row = ""
                so_far = []
                for item in history:
                    if isinstance(item, str):
                        so_far.append(item)
                    row += item if isinstance(item, str) else so_far[len(so_far) - item]
                self.assertEqual(heard(service, history), follow(service, 0, row)[1])
                self.assertEqual(firsts(history), "".join(new))

    def test_none_and_sixty_items(self):
        self.assertEqual(heard(TOGGLE, ()), "")
        self.assertEqual(firsts(()), "")
        self.assertEqual(heard(TOGGLE, ("t",) + (1,) * 59), "xy" * 30)
        self.assertEqual(firsts(("t",) + (1,) * 59), "t")
        self.assertEqual(heard(TOGGLE, ("t",) * 60), "xy" * 30)
        self.assertEqual(firsts(("a", "z") * 30), "az" * 30)

    def test_histories_that_are_none(self):
        for history in (("t",) * 61, ("t",) + (1,) * 60, (0,), (1,), ("t", 2), ("t", 0), ("t", -1), ("t", True),
                        ("t", "tt"), ("",), ("T",), ("\u00e9",), ["t"], "t", "", None, True, 5, {}, {"t": 1},
                        ("t", None), ("t", []), (("t",),), ("t", "t", 3), ("t", 10 ** 40)):
            with self.assertRaises(BadHistory, msg=repr(history)):
                heard(TOGGLE, history)
            with self.assertRaises(BadHistory, msg=repr(history)):
                firsts(history)

    def test_heard_takes_asks_of_the_service_only_firsts_any_letters(self):
        with self.assertRaises(BadHistory):
            heard(TOGGLE, ("t", "a"))
        self.assertEqual(firsts(("t", "a", 2, "z", 3)), "taz")

    def test_what_comes_again_far_behind(self):
        self.assertEqual(heard(LAMP, ("t",) + ("n",) * 50 + (51, 50)), "x" * 51 + "yx")


class Bears(unittest.TestCase):
    def test_against_all_short_histories(self):
        # Of two stands, each is told from the other by one ask: five items show whatever can be shown.
        for service in list(every_service("ab", 2, "xy"))[::5]:
            for lot in ("a", "b", "ab"):
                for window in WINDOWS:
                    self.assertIs(bears(service, lot, window), bears_by_histories(service, lot, window, 5),
                                  (service, lot, window))

    def test_against_a_search_through_histories_of_any_length(self):
        told = set()
        for service in samples():
            for lot in lots_of(service[0]):
                for window in WINDOWS:
                    wished = bears_by_search(service, lot, window)
                    told.add((window, wished))
                    self.assertIs(bears(service, lot, window), wished, (service, lot, window))
        self.assertEqual(told, {(0, True), *((window, wished) for window in WINDOWS[1:] for wished in (True, False))})

    def test_the_search_and_the_histories_tell_the_same(self):
        for history, unlike in ((("n", "t", 2, "t"), True), (("n", "t", 2), False), (("t", 1, "t"), True)):
            self.assertIs(shows_unlike(LAMP, history), unlike)

    def test_nothing_comes_again(self):
        for service in (LAMP, COUNT, TOGGLE, ring(40)):
            self.assertIs(bears(service, "", None), True)
            self.assertIs(bears(service, service[0], 0), True)

    def test_stands_alike_will_do(self):
        twofold = ("a", (((1, "x"),), ((0, "x"),)))
        self.assertIs(bears(twofold, "a", None), True)

    def test_stands_that_no_row_leads_to_do_not_matter(self):
        rows = (((0, "x"), (0, "y")), ((2, "x"), (1, "y")), ((1, "y"), (2, "y")))
        self.assertIs(bears(("ab", rows), "ab", None), True)

    def test_stands_ahead_of_the_ask_do_not_matter(self):
        self.assertIs(bears(("a", (((1, "x"),), ((1, "y"),))), "a", None), True)

    def test_the_window_counts_the_ask_itself(self):
        self.assertIs(bears(COUNT, "s", None), True)
        self.assertIs(bears(ring(3), "z", 1), True)
        self.assertIs(bears(ring(3), "z", 2), False)

    def test_forty_stands_and_four_asks(self):
        for many in (39, 40):
            for lot in lots_of("gnsz"):
                for window in (1, 2, 39, 40, None):
                    wished = not ("s" in lot or ("z" in lot and window != 1))
                    self.assertIs(bears(ring(many), lot, window), wished, (lot, window))

    def test_forty_stands_against_a_plain_search(self):
        told = set()
        for asks, rows in some_services(46, 4, "abcd", 40, "xxy"):
            mild = tuple(((at, parts[0][1]), rows[0][1], ((at * 2) % 40, "x"), parts[3])
                         for at, parts in enumerate(rows))
            closed = tuple(((at, parts[0][1]), (20 + parts[1][0] % 20, "x"), (20 * (at // 20), "x"), (20, "x"))
                           for at, parts in enumerate(rows))
            for service in ((asks, rows), (asks, mild), (asks, closed)):
                for lot in ("a", "b", "c", "d", "ad", "abcd"):
                    for window in (1, 40, None):
                        wished = bears_by_ages(service, lot, window)
                        told.add(wished)
                        self.assertIs(bears(service, lot, window), wished, (service, lot, window))
        self.assertEqual(told, {True, False})


class WindowOf(unittest.TestCase):
    def test_none_0_and_the_greatest(self):
        self.assertIsNone(window_of(COUNT, "gs"))
        self.assertEqual(window_of(TOGGLE, "t"), 0)
        self.assertEqual(window_of(ring(40), "z"), 1)
        self.assertEqual(window_of(ring(40), "gnz"), 1)
        self.assertEqual(window_of(ring(40), "gsz"), 0)
        self.assertIsNone(window_of(ring(40), "gn"))
        self.assertIsNone(window_of(ring(40), ""))

    def test_it_is_borne_and_the_next_one_is_not(self):
        for service in samples():
            for lot in lots_of(service[0]):
                window = window_of(service, lot)
                if window is None:
                    self.assertIs(bears_by_search(service, lot, None), True)
                else:
                    self.assertIs(type(window), int)
                    self.assertLessEqual(window, 39)
                    self.assertIs(bears_by_search(service, lot, window), True)
                    self.assertIs(bears_by_search(service, lot, window + 1), False)


class BorneAndHarmful(unittest.TestCase):
    def test_each_ask_as_a_lot_and_all_together(self):
        for service in samples():
            for window in WINDOWS:
                wished = "".join(ask for ask in service[0] if bears_by_search(service, ask, window))
                self.assertEqual(borne(service, window), wished)
                self.assertIs(bears_by_search(service, wished, window), True)
                self.assertEqual(harmful(service, window), "".join(ask for ask in service[0] if ask not in wished))

    def test_they_are_all_asks(self):
        for service in (LAMP, DULL, COUNT, TOGGLE, ring(1), ring(2), ring(40)):
            for window in (0, 1, 2, 40, None):
                self.assertEqual("".join(sorted(borne(service, window) + harmful(service, window))), service[0])

    def test_forty_stands(self):
        told = [(borne(ring(40), window), harmful(ring(40), window)) for window in (0, 1, 2, 40, None)]
        self.assertEqual(told, [("gnsz", ""), ("gnz", "s"), ("gn", "sz"), ("gn", "sz"), ("gn", "sz")])


class Parts(unittest.TestCase):
    def test_greatest_part_against_a_plain_search(self):
        told = set()
        for service in samples():
            for window in WINDOWS:
                wished = greatest_by_search(service, window)
                told.add(wished)
                self.assertEqual(greatest_part(service, window), wished, (service, window))
        self.assertEqual(told, {"", "a", "b", "c", "ab", "ac", "bc", "abc"})

    def test_there_is_none_but_the_empty_text(self):
        self.assertEqual(greatest_part(TOGGLE, None), "")
        self.assertEqual(greatest_part(TOGGLE, 0), "t")
        turning = ("abcd", tuple(tuple(((at + 1) % 2, "xy"[at]) for _ in "abcd") for at in range(2)))
        self.assertEqual(greatest_part(turning, 1), "")

    def test_more_can_be_borne_where_others_are_left_out(self):
        self.assertEqual(borne(ring(40), None), "gn")
        self.assertEqual(greatest_part(ring(40), None), "gnz")
        self.assertEqual(greatest_part(ring(40), 0), "gnsz")

    def test_of_those_with_most_asks_the_least(self):
        asks = ("ab", (((1, "x"), (2, "x")), ((1, "y"), (2, "x")), ((1, "x"), (2, "y"))))
        self.assertIs(bears(asks, "ab", None), False)
        self.assertEqual(greatest_part(asks, None), "a")

    def test_part_is_the_least_service_with_just_these_asks(self):
        for service in samples():
            for lot in lots_of(service[0])[1:]:
                told = part(service, lot)
                self.assertEqual(told, least(left_out(service, lot)))
                for row in rows_of(lot, 3):
                    self.assertEqual(follow(told, 0, row)[1], follow(service, 0, row)[1])
                self.assertIsNone(first_unlike(told, 0, left_out(service, lot), 0))

    def test_part_with_all_asks_is_the_least_service(self):
        self.assertEqual(part(ring(40), "gnsz"), ring(40))
        self.assertEqual(part(LAMP, "nt"), LAMP)
        self.assertEqual(part(ring(40), "gnz"), ("gnz", (((0, "x"), (0, "o"), (0, "o")),)))

    def test_part_of_an_empty_lot(self):
        with self.assertRaises(NoAsk):
            part(LAMP, "")
        with self.assertRaises(BadService):
            part(("n", ()), "")


if __name__ == "__main__":
    unittest.main()
