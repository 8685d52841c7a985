"""Promises 13 and 14: services beside one another and renamed, what asks can be answered, alike again."""

import itertools
import unittest

from oftenasked.errors import (BadLetters, BadLot, BadRow, BadService, BadWindow, ServiceError, Shared, TooMany,
                               Unlike)
from oftenasked.lots import are_alike_again, beside, can_answer, renamed, row_again
from oftenasked.services import answers, are_alike, is_service, parting, stands_come_to
from tests.plain import (COUNT, DULL, LAMP, TOGGLE, chain, come_to_by_rows, every_service, follow, lots_of, ring,
                         rows_of, some_services)

BAD_LETTERS = ("", "a", "abc", "aa", "Ab", "AB", "a1", "a ", "a\n", "\u00e9a", "\u00dfa", ["a", "b"], ("a", "b"),
               {"a": 1, "b": 2}, None, True, 0, 12, [], (), {}, ["ab"], ("ab",))
BAD_LOTS = ("tn", "nn", "x", "N", "n ", None, True, 0, (), ("n",), ["n"], {}, {"n": 1})
BAD_WINDOWS = (41, -1, True, False, 10 ** 40, -10 ** 40, "1", "", (1,), [], {}, [1])
BAD_ROWS = ("x", "nx", "N", "n t", "n" * 61, None, True, 0, (), ("n",), ["n"], {}, {"n": 1})
BAD_SERVICES = (None, True, 0, "nt", (), [], {}, ("nt",), ("nt", ()), ["nt", LAMP[1]], ("tn", LAMP[1]), ("nt", None))


def small(seed, count, asks, many, letters="xxy"):
    return list(some_services(seed, count, asks, many, letters))


def counted(many, letter):
    """One ask that is answered y behind many asks, again and again."""
    return chain("x" * (many - 1) + "y")[0].replace("a", letter), chain("x" * (many - 1) + "y")[1]


def of_each(one, other, row):
    """The answers of a row, each ask asked of its own service, one service after the other."""
    alone = [iter(follow(service, 0, "".join(ask for ask in row if ask in service[0]))[1]) for service in (one, other)]
    return "".join(next(alone[0] if ask in one[0] else alone[1]) for ask in row)


def numbers_by_rows(service, longest):
    """The stands behind all rows, each where it is first come to."""
    found = []
    for row in rows_of(service[0], longest):
        at = follow(service, 0, row)[0]
        if at not in found:
            found.append(at)
    return found


class Beside(unittest.TestCase):
    def check(self, one, other):
        told = beside(one, other)
        self.assertIs(is_service(told), True)
        self.assertEqual(told[0], "".join(sorted(one[0] + other[0])))
        many = len(come_to_by_rows(one)) * len(come_to_by_rows(other))
        self.assertEqual(len(told[1]), many)
        for row in rows_of(told[0], 5 if len(told[0]) < 4 else 4):
            self.assertEqual(follow(told, 0, row)[1], of_each(one, other, row), (one, other, row))
        return told

    def test_against_both_services_each_asked_on_its_own(self):
        asked = (("a", "b"), ("b", "a"), ("ac", "b"), ("b", "ac"), ("ab", "cd"), ("cd", "ab"), ("ad", "bc"),
                 ("bc", "ad"), ("bd", "ac"), ("b", "acd"), ("abd", "c"))
        for at, (asks, others) in enumerate(asked):
            for one in small(11 + at, 5, asks, 3):
                for other in small(31 + at, 5, others, 2):
                    self.check(one, other)

    def test_stands_are_numbered_as_they_are_come_to(self):
        for one in small(51, 12, "ac", 3):
            for other in small(52, 12, "b", 3):
                told = self.check(one, other)
                longest = 5
                found = numbers_by_rows(told, longest)
                self.assertEqual(found, list(range(len(told[1]))), (one, other))

    def test_word_for_word(self):
        one = ("b", (((1, "x"),), ((0, "y"),)))
        other = ("ac", (((1, "u"), (0, "v")), ((0, "w"), (1, "z"))))
        wished = ("abc", (((1, "u"), (2, "x"), (0, "v")), ((0, "w"), (3, "x"), (1, "z")),
                          ((3, "u"), (0, "y"), (2, "v")), ((2, "w"), (1, "y"), (3, "z"))))
        self.assertEqual(beside(one, other), wished)
        self.assertEqual(beside(other, one), wished)

    def test_stands_alike_are_not_merged(self):
        twofold = ("a", (((1, "x"),), ((0, "x"),)))
        self.assertEqual(beside(twofold, ("b", (((0, "x"),),))), ("ab", (((1, "x"), (0, "x")), ((0, "x"), (1, "x")))))

    def test_stands_that_no_row_leads_to_are_left_out(self):
        one = ("a", (((2, "x"),), ((1, "z"),), ((0, "y"),)))
        self.assertEqual(beside(one, ("b", (((0, "x"),), ((0, "z"),)))),
                         ("ab", (((1, "x"), (0, "x")), ((0, "y"), (1, "x")))))

    def test_forty_stands_and_more(self):
        self.assertEqual(len(beside(counted(5, "a"), counted(8, "b"))[1]), 40)
        self.assertEqual(len(beside(counted(40, "a"), counted(1, "b"))[1]), 40)
        self.assertEqual(len(beside(counted(1, "b"), counted(40, "a"))[1]), 40)
        self.assertEqual(len(beside(counted(3, "a"), counted(13, "b"))[1]), 39)
        # A number of stands come to is a product, so 41 cannot be: 42 are the next ones.
        for one, other in ((6, 7), (7, 6), (2, 21), (40, 2), (2, 40), (40, 40), (3, 14)):
            with self.assertRaises(TooMany) as caught:
                beside(counted(one, "a"), counted(other, "b"))
            self.assertEqual(caught.exception.most, 40)

    def test_stands_that_no_row_leads_to_are_not_counted(self):
        far = ("a", counted(5, "a")[1] + (((0, "z"),),) * 35)
        wide = ("b", counted(8, "b")[1] + (((0, "z"),),) * 32)
        self.assertEqual(beside(far, wide), beside(counted(5, "a"), counted(8, "b")))

    def test_services_that_share_an_ask(self):
        for one, other in ((LAMP, LAMP), (LAMP, TOGGLE), (TOGGLE, LAMP), (LAMP, ("n", (((0, "x"),),))),
                           (ring(2), ("z", (((0, "x"),),))), (ring(40), COUNT), (ring(40), ring(40))):
            with self.assertRaises(Shared):
                beside(one, other)

    def test_four_asks_in_all_and_five(self):
        free = ("abcd", (((0, "x"),) * 4,))
        self.assertEqual(beside(("abc", (((0, "x"),) * 3,)), ("d", (((0, "x"),),))), free)
        for one, other in ((free, TOGGLE), (TOGGLE, free), (("abc", (((0, "x"),) * 3,)), LAMP), (ring(40), ring(1)),
                           (ring(40), ("abcd", (((0, "x"),) * 4,)))):
            with self.assertRaises(ServiceError) as caught:
                beside(one, other)
            if set(one[0]) & set(other[0]):
                self.assertIs(type(caught.exception), Shared)
            else:
                self.assertIs(type(caught.exception), TooMany)
                self.assertEqual(caught.exception.most, 4)

    def test_errors_in_order(self):
        for bad in BAD_SERVICES:
            for one, other in ((bad, LAMP), (LAMP, bad), (bad, bad), (bad, ring(40))):
                with self.assertRaises(BadService):
                    beside(one, other)
        # Five asks in all and one of them shared; five asks in all and too many stands.
        with self.assertRaises(Shared):
            beside(ring(40), ("gh", (((0, "x"),) * 2,)))
        wide = ("abc", tuple((((at + 1) % 40, "x"),) * 3 for at in range(40)))
        with self.assertRaises(TooMany) as caught:
            beside(wide, ("de", tuple((((at + 1) % 2, "x"),) * 2 for at in range(2))))
        self.assertEqual(caught.exception.most, 4)


class Renamed(unittest.TestCase):
    def test_against_the_answers_of_the_first_one(self):
        for asks in ("a", "nt", "bcd", "gnsz"):
            for service in small(61, 4, asks, 3, "xyz"):
                for letters in itertools.permutations("azmt"[:len(asks)]):
                    told = renamed(service, "".join(letters))
                    self.assertIs(is_service(told), True)
                    self.assertEqual(told[0], "".join(sorted(letters)))
                    called = dict(zip(asks, letters))
                    for row in rows_of(asks, 4):
                        self.assertEqual(follow(told, 0, "".join(called[ask] for ask in row)),
                                         follow(service, 0, row), (service, letters, row))

    def test_word_for_word(self):
        self.assertEqual(renamed(LAMP, "nt"), LAMP)
        self.assertEqual(renamed(LAMP, "az"), ("az", LAMP[1]))
        self.assertEqual(renamed(LAMP, "tn"), ("nt", (((1, "x"), (1, "x")), ((0, "y"), (1, "x")))))
        self.assertEqual(renamed(renamed(LAMP, "tn"), "tn"), LAMP)
        service = ("abc", (((0, "x"), (1, "y"), (2, "z")), ((0, "u"), (0, "v"), (0, "w")), ((1, "p"), (1, "q"), (1, "r"))))
        self.assertEqual(renamed(service, "ykz"), ("kyz", (((1, "y"), (0, "x"), (2, "z")), ((0, "v"), (0, "u"), (0, "w")),
                                                           ((1, "q"), (1, "p"), (1, "r")))))
        self.assertEqual(renamed(service, "bca"), ("abc", (((2, "z"), (0, "x"), (1, "y")), ((0, "w"), (0, "u"), (0, "v")),
                                                           ((1, "r"), (1, "p"), (1, "q")))))

    def test_stands_keep_their_numbers(self):
        # Those that no row leads to stay, too.
        service = ("ab", (((2, "x"), (0, "y")), ((1, "z"), (1, "z")), ((0, "u"), (2, "v"))))
        told = renamed(service, "ba")
        self.assertEqual(told, ("ab", (((0, "y"), (2, "x")), ((1, "z"), (1, "z")), ((2, "v"), (0, "u")))))
        self.assertEqual(stands_come_to(told), (0, 2))
        self.assertEqual(renamed(ring(40), "gnsz"), ring(40))

    def test_values_that_are_no_letters(self):
        for letters in BAD_LETTERS:
            with self.assertRaises(BadLetters, msg=repr(letters)):
                renamed(LAMP, letters)
        for letters in ("ab", "abcde", "aabc", "abca", "abcD"):
            with self.assertRaises(BadLetters, msg=repr(letters)):
                renamed(ring(2), letters)
        for letters in ("", "aa", "ab", "A", "1", ["a"], ("a",), None, 0):
            with self.assertRaises(BadLetters, msg=repr(letters)):
                renamed(TOGGLE, letters)

    def test_errors_in_order(self):
        for bad in BAD_SERVICES:
            for letters in ("ab", None, ""):
                with self.assertRaises(BadService):
                    renamed(bad, letters)


def histories_of(row, lot, window, most, done=0):
    """All histories with just these first asks, with at most so many integers between two of them."""
    if done == len(row):
        yield ()
        return
    last = min(done, done if window is None else window)
    backs = [back for back in range(1, last + 1) if row[done - back] in lot]
    for many in range(most + 1):
        for between in itertools.product(backs, repeat=many):
            for rest in histories_of(row, lot, window, most, done + 1):
                yield between + (row[done],) + rest


def can_by_histories(service, lot, window, row, most):
    """What each first ask of the row is answered in all these histories."""
    told = [set() for _ in row]
    for history in histories_of(row, lot, window, most):
        at = done = 0
        for item in history:
            ask = row[done - item] if isinstance(item, int) else item
            at, answer = follow(service, at, ask)
            if not isinstance(item, int):
                told[done].add(answer)
                done += 1
    return tuple("".join(sorted(letters)) for letters in told)


class CanAnswer(unittest.TestCase):
    def test_against_a_search_through_histories(self):
        # Between two first asks it takes at most one integer for each stand but one to lead wherever integers lead.
        services = small(71, 6, "ab", 2, "xy") + small(72, 6, "ab", 3, "xyz") + [LAMP, COUNT]
        unlike = 0
        for service in services:
            for lot in lots_of(service[0]):
                for window in (0, 1, 2, 3, None):
                    for row in rows_of(service[0], 3):
                        wished = can_by_histories(service, lot, window, row, len(service[1]) - 1)
                        unlike += any(len(letters) > 1 for letters in wished)
                        self.assertEqual(can_answer(service, lot, window, row), wished, (service, lot, window, row))
        self.assertGreater(unlike, 200)

    def test_longer_rows_of_two_and_three_stands(self):
        for service in small(73, 3, "ab", 2, "xy") + small(74, 2, "abc", 2, "xyz"):
            for lot in lots_of(service[0])[1:]:
                for window in (1, 2, 4, None):
                    for row in list(rows_of(service[0], 4))[-9::2]:
                        wished = can_by_histories(service, lot, window, row, 1)
                        self.assertEqual(can_answer(service, lot, window, row), wished, (service, lot, window, row))
        service = small(75, 1, "a", 4, "wxyz")[0]
        self.assertEqual(can_answer(service, "a", None, "aaaa"), can_by_histories(service, "a", None, "aaaa", 3))

    def test_the_same_ask_again_more_than_once(self):
        service = chain("abcdefgh")
        for window in (1, 2, None):
            self.assertEqual(can_answer(service, "a", window, "aa"), ("a", "abcdefgh"))
        self.assertEqual(can_answer(service, "a", 0, "aaa"), ("a", "b", "c"))
        self.assertEqual(can_answer(service, "", None, "aaa"), ("a", "b", "c"))

    def test_several_integers_of_unlike_asks(self):
        # Only a and b together, a first, lead to the stand 2, from which c is answered z.
        service = ("abc", (((0, "x"), (0, "x"), (0, "x")), ((1, "x"), (2, "x"), (1, "x")),
                           ((2, "x"), (2, "x"), (2, "z"))))
        begun = ("abc", (((1, "x"), (0, "x"), (0, "x")),) + service[1][1:])
        self.assertEqual(can_answer(begun, "ab", None, "bac")[2], "xz")
        self.assertEqual(can_answer(begun, "b", None, "bac")[2], "xz")
        self.assertEqual(can_answer(begun, "a", None, "bac")[2], "x")
        self.assertEqual(can_answer(begun, "b", 1, "bac")[2], "x")
        self.assertEqual(can_answer(begun, "b", 2, "bac")[2], "xz")

    def test_a_window_shorter_than_the_row_as_long_and_longer(self):
        # s is asked first of all; where it comes again behind others, t is answered y.
        service = ("nst", (((0, "x"), (1, "x"), (0, "x")), ((1, "x"), (2, "x"), (1, "x")),
                           ((2, "x"), (2, "x"), (2, "y"))))
        for long in range(1, 41):
            row = "s" + "n" * (long - 1) + "t"
            for window in sorted({0, 1, long - 1, long, min(long + 1, 40), 40}):
                # What came again early stays: it takes a window of 1 and one place behind the ask.
                wished = "xy" if window >= 1 else "x"
                self.assertEqual(can_answer(service, "s", window, row)[-1], wished, (row, window))
        # Here the ask that turns the stand turns it only behind all others.
        late = ("nst", (((1, "x"), (0, "x"), (0, "x")), ((2, "x"), (1, "x"), (1, "x")), ((3, "x"), (2, "x"), (2, "x")),
                        ((3, "x"), (4, "x"), (3, "x")), ((4, "x"), (4, "x"), (4, "y"))))
        for window, wished in ((0, "x"), (3, "x"), (4, "xy"), (5, "xy"), (40, "xy"), (None, "xy")):
            self.assertEqual(can_answer(late, "s", window, "snnnt")[-1], wished, window)
            self.assertEqual(can_answer(late, "n", window, "snnnt")[-1], "x", window)
        self.assertEqual(can_answer(late, "ns", 4, "snnnt"), ("x", "x", "x", "x", "xy"))

    def test_the_whole_window_of_forty(self):
        # n goes on to the stand 39, from which s leads back to 0. Only there n is answered z.
        service = ("ns", tuple(((min(at + 1, 39), "x" if at else "z"), (at % 39, "x")) for at in range(40)))
        for window, wished in ((0, "x"), (1, "x"), (38, "x"), (39, "x"), (40, "xz"), (None, "xz")):
            self.assertEqual(can_answer(service, "s", window, "s" + "n" * 40)[-1], wished, window)
            # Ahead of the last n the s is the 41st last first ask by then: it comes again for ever only.
            self.assertEqual(can_answer(service, "s", window, "s" + "n" * 41)[-1], "xz" if window is None else "x")
        self.assertEqual(can_answer(service, "s", 40, "ns" + "n" * 40)[-1], "xz")

    def test_rows_of_no_ask_sixty_and_61(self):
        for lot in lots_of("nt"):
            for window in (0, 1, 40, None):
                self.assertEqual(can_answer(LAMP, lot, window, ""), ())
                self.assertEqual(len(can_answer(LAMP, lot, window, "nt" * 30)), 60)
                with self.assertRaises(BadRow):
                    can_answer(LAMP, lot, window, "n" * 61)
        self.assertEqual(can_answer(LAMP, "", None, "t" * 60), ("x", "y") * 30)
        self.assertEqual(can_answer(LAMP, "t", 1, "t" * 60), ("x",) + ("xy",) * 59)
        # Nothing comes again ahead of the first ask.
        self.assertEqual(can_answer(LAMP, "nt", None, "n" * 60), ("x",) * 60)

    def test_where_nothing_comes_again_it_is_the_answers(self):
        for service in small(76, 20, "abc", 4, "xyz"):
            for row in ("", "a", "abc", "cabcabbaac" * 6):
                wished = tuple(answers(service, row))
                self.assertEqual(can_answer(service, "", None, row), wished)
                self.assertEqual(can_answer(service, "abc", 0, row), wished)

    def test_the_answer_of_the_row_alone_is_among_them(self):
        for service in small(77, 20, "abc", 5, "xyz"):
            for lot in lots_of("abc"):
                for window in (1, 2, None):
                    row = "cabcabbaac" * 6
                    told = can_answer(service, lot, window, row)
                    self.assertTrue(all(answer in letters for answer, letters in zip(answers(service, row), told)))
                    self.assertTrue(all("".join(sorted(set(letters))) == letters for letters in told))

    def test_errors_in_order(self):
        for service, lot, window, row, error in (
                [(bad, None, True, 5, BadService) for bad in BAD_SERVICES]
                + [(LAMP, bad, True, 5, BadLot) for bad in BAD_LOTS]
                + [(LAMP, "nt", bad, 5, BadWindow) for bad in BAD_WINDOWS]
                + [(LAMP, "nt", None, bad, BadRow) for bad in BAD_ROWS]):
            with self.assertRaises(error, msg=repr((service, lot, window, row))):
                can_answer(service, lot, window, row)


def first_by_rows(one, other, lot, longest):
    """The first row of at most that length whose last ask can get unlike answers."""
    for row in rows_of(one[0], longest):
        if row and can_answer(one, lot, None, row)[-1] != can_answer(other, lot, None, row)[-1]:
            return row
    return None


def wheels(one, other, back):
    """Two services of that many stands, one always answered as the other: a goes round, b leads to a stand."""
    made = []
    for many in (one, other):
        rows = tuple((((at + 1) % many, "x"), (many if back else 0, "x")) for at in range(many))
        made.append(("ab", rows + (((0, "x"), (many, "x")),) * back))
    return made


def crowd(last="x"):
    """Forty stands. c leads from 0 to 1 and does nothing else; b goes round, d and e make two stands one."""
    rows = [[((at + 1) % 40, "x"), (at, "x"), (at, "x"), (at, "x")] for at in range(40)]
    rows[0][1] = (1, "x")
    rows[7][2] = (19, "x")
    rows[3][3] = (0, "x")
    rows[11][3] = (0, "x")
    rows[0][0] = (1, last)
    return ("bcde", tuple(tuple(parts) for parts in rows))


class AlikeAgain(unittest.TestCase):
    def check(self, one, other, lot, longest):
        """Hold both functions against can_answer; the row that is told."""
        told = row_again(one, other, lot)
        self.assertIs(are_alike_again(one, other, lot), told is None, (one, other, lot))
        wished = first_by_rows(one, other, lot, longest)
        if wished is not None or told is None:
            self.assertEqual(told, wished, (one, other, lot))
        else:
            self.assertGreater(len(told), longest)
            self.assertNotEqual(can_answer(one, lot, None, told)[-1], can_answer(other, lot, None, told)[-1])
        return told

    def test_against_can_answer_over_all_rows_of_some_asks(self):
        told = set()
        pairs = list(zip(small(81, 60, "ab", 2, "xxxy"), small(82, 60, "ab", 3, "xxxy")))
        pairs += list(zip(small(83, 30, "ab", 3, "xxxxy"), small(84, 30, "ab", 3, "xxxxy")))
        for one, other in pairs:
            for lot in lots_of("ab"):
                row = self.check(one, other, lot, 6)
                told.add(None if row is None else len(row))
                self.assertEqual(row, self.check(other, one, lot, 4))
        self.assertIn(None, told)
        self.assertGreater(len(told), 4)

    def test_services_with_one_stand_changed(self):
        alike = 0
        for at, (asks, rows) in enumerate(small(85, 40, "abc", 4, "xxy")):
            other = (asks, rows[:3] + (rows[at % 3],))
            for lot in ("", "a", "bc", "abc"):
                alike += self.check((asks, rows), other, lot, 4) is None
        self.assertGreater(alike, 10)

    def test_all_small_services_of_one_ask(self):
        services = list(every_service("a", 2, "xy"))
        for one in services:
            for other in services:
                self.check(one, other, "a", 6)
                self.check(one, other, "", 6)

    def test_nothing_comes_again(self):
        for one, other in zip(small(86, 60, "ab", 4, "xxxy"), small(87, 60, "ab", 4, "xxxy")):
            self.assertEqual(row_again(one, other, ""), parting(one, other))
            self.assertIs(are_alike_again(one, other, ""), are_alike(one, other))

    def test_one_service_twice(self):
        for service in (LAMP, DULL, COUNT, TOGGLE, ring(1), ring(5), ring(40)):
            for lot in lots_of(service[0]):
                self.assertIsNone(row_again(service, service, lot))
                self.assertIs(are_alike_again(service, service, lot), True)

    def test_stands_that_no_row_leads_to_do_not_matter(self):
        self.assertIsNone(row_again(LAMP, (LAMP[0], LAMP[1] + (((0, "z"), (2, "z")),)), "nt"))

    def test_alike_services_are_alike_again(self):
        # Each history asks one row of both, so none can be alike and not alike once asks come again.
        for service in small(88, 30, "ab", 3, "xxy"):
            moved = (service[0], tuple(tuple(((3 - after) % 3, answer) for after, answer in service[1][(3 - at) % 3])
                                       for at in range(3)))
            for lot in lots_of("ab"):
                self.assertIs(are_alike(service, moved), True)
                self.assertIs(are_alike_again(service, moved, lot), True)

    def test_alike_only_once_asks_come_again(self):
        # The first is answered x and y by turns, the second one y from the second ask on; if a comes again, each
        # ask but the first one can get both from the first one, but only y from the second one.
        self.assertEqual(row_again(TOGGLE, ("t", (((1, "x"),), ((1, "y"),))), "t"), "tt")
        turned = ("t", (((1, "x"),), ((2, "x"),), ((0, "y"),)))
        self.assertEqual(parting(TOGGLE, turned), "tt")
        self.assertIs(are_alike(TOGGLE, turned), False)
        self.assertIs(are_alike_again(TOGGLE, turned, ""), False)
        self.assertIs(are_alike_again(TOGGLE, turned, "t"), True)
        self.assertIsNone(row_again(TOGGLE, turned, "t"))

    def test_an_ask_that_never_comes_again_is_still_answered(self):
        one = ("ab", (((1, "x"), (0, "x")), ((0, "x"), (1, "y"))))
        other = ("ab", (((1, "x"), (0, "x")), ((2, "x"), (1, "y")), ((0, "x"), (2, "x"))))
        self.assertEqual(parting(one, other), "aaab")
        self.assertIs(are_alike_again(one, other, "a"), True)
        self.assertEqual(row_again(one, other, "b"), "aaab")

    def test_the_least_of_the_rows_of_one_length(self):
        one = ("abc", (((0, "x"), (1, "x"), (1, "x")), ((1, "x"), (1, "y"), (1, "y"))))
        self.assertEqual(row_again(one, ("abc", (((0, "x"),) * 3,)), ""), "bb")
        self.assertEqual(row_again(one, ("abc", (((0, "x"),) * 3,)), "abc"), "bb")

    def test_a_row_of_many_asks(self):
        for many in (2, 20, 40):
            last = ("ab", tuple(((min(at + 1, many - 1), "x"), (at, "y" if at == many - 1 else "x"))
                                for at in range(many)))
            dull = ("ab", (((0, "x"), (0, "x")),))
            self.assertEqual(row_again(last, dull, ""), "a" * (many - 1) + "b")
            self.assertEqual(row_again(last, dull, "b"), "a" * (many - 1) + "b")
            self.assertEqual(row_again(last, dull, "a"), "ab")

    def test_two_thousand_pairs_and_one_more(self):
        # Behind rows of a alone, and of both, all 27 * 37 = 999 pairs come; the begin and b alone make two more.
        one, other = wheels(27, 37, 0)
        self.assertIs(are_alike_again(one, other, ""), True)
        self.assertIsNone(row_again(one, other, ""))
        # Where b leads to a stand of its own, that one comes behind rows of both, too.
        one, other = wheels(27, 37, 1)
        self.too_many(one, other, "")

    def too_many(self, one, other, lot):
        for tell in (are_alike_again, row_again):
            with self.assertRaises(TooMany) as caught:
                tell(one, other, lot)
            self.assertEqual(caught.exception.most, 2000)

    def test_many_lots_of_stands(self):
        self.too_many(crowd(), crowd(), "c")
        self.too_many(wheels(39, 40, 0)[0], wheels(39, 40, 0)[1], "")

    def test_too_many_pairs_though_the_first_ask_is_answered_unlike(self):
        # The document counts all pairs that come and makes no exception for services that part early.
        self.too_many(crowd(), crowd("y"), "c")

    def test_errors_in_order(self):
        for tell in (are_alike_again, row_again):
            for bad in BAD_SERVICES:
                for passed in ((bad, None, None), (bad, LAMP, "x"), (LAMP, bad, "x"), (COUNT, bad, None)):
                    with self.assertRaises(BadService):
                        tell(*passed)
            for one, other in ((LAMP, COUNT), (LAMP, TOGGLE), (TOGGLE, LAMP), (LAMP, ("mt", LAMP[1]))):
                for lot in ("x", None, "", "t"):
                    with self.assertRaises(Unlike):
                        tell(one, other, lot)
            for lot in BAD_LOTS:
                with self.assertRaises(BadLot, msg=repr(lot)):
                    tell(LAMP, DULL, lot)
            with self.assertRaises(BadLot):
                tell(crowd(), crowd(), "a")


if __name__ == "__main__":
    unittest.main()
