"""Promise 1: any values, errors in the order of the parameters, nothing that is handed in changed."""

import copy
import unittest

from oftenasked import again, clerks, lots, orders, papers, reading, services
from oftenasked.errors import (BadClerk, BadHistory, BadLetters, BadLot, BadRow, BadService, BadWindow, InvalidText,
                               NoAsk, NotBorne, NotText, Same, ServiceError, Shared, TooMany, Unlike)
from tests.plain import COUNT, LAMP, ring, wheel

PROGRAM = "asks nt;stand A=n>A x,t>A y;ask window nt;"

INTERFACE = {
    services: ("is_service", "answers", "stand", "stands_come_to", "least", "are_alike", "parting"),
    again: ("is_history", "heard", "firsts", "bears", "window_of", "borne", "harmful", "greatest_part", "part"),
    papers: ("broken", "paper", "judged", "answers_again", "second_broken"),
    orders: ("may_swap", "swaps", "can_lead"),
    clerks: ("clerked", "wished", "is_enough", "clerk_breaks", "does_serve"),
    lots: ("beside", "renamed", "can_answer", "are_alike_again", "row_again"),
    reading: ("check", "printed", "run"),
}

# For each function what it may be passed and the error of each parameter; None for one that takes any value.
CALLS = (
    (services.is_service, (LAMP,), (None,)),
    (services.answers, (LAMP, "tn"), (BadService, BadRow)),
    (services.stand, (LAMP, "tn"), (BadService, BadRow)),
    (services.stands_come_to, (LAMP,), (BadService,)),
    (services.least, (LAMP,), (BadService,)),
    (services.are_alike, (LAMP, LAMP), (BadService, BadService)),
    (services.parting, (LAMP, LAMP), (BadService, BadService)),
    (again.is_history, (LAMP, "n", 1, ("n", 1)), (BadService, BadLot, BadWindow, None)),
    (again.heard, (LAMP, ("n", 1)), (BadService, BadHistory)),
    (again.firsts, (("n", 1),), (BadHistory,)),
    (again.bears, (LAMP, "n", 1), (BadService, BadLot, BadWindow)),
    (again.window_of, (LAMP, "n"), (BadService, BadLot)),
    (again.borne, (LAMP, 1), (BadService, BadWindow)),
    (again.harmful, (LAMP, 1), (BadService, BadWindow)),
    (again.greatest_part, (LAMP, 1), (BadService, BadWindow)),
    (again.part, (LAMP, "n"), (BadService, BadLot)),
    (papers.broken, (LAMP, "n", 2), (BadService, BadLot, BadWindow)),
    (papers.paper, (LAMP, "n", 1), (BadService, BadLot, BadWindow)),
    (papers.judged, (LAMP, "n", 1, ("bears", (0, 1))), (BadService, BadLot, BadWindow, None)),
    (papers.answers_again, (LAMP, "n", 1), (BadService, BadLot, BadWindow)),
    (papers.second_broken, (LAMP, "n", 1), (BadService, BadLot, BadWindow)),
    (orders.may_swap, (LAMP, "n", "t"), (BadService, NoAsk, NoAsk)),
    (orders.swaps, (LAMP,), (BadService,)),
    (orders.can_lead, (LAMP, "nt", "tn"), (BadService, BadRow, BadRow)),
    (clerks.clerked, (LAMP, (2, 1), ("n", 1)), (BadService, BadClerk, BadHistory)),
    (clerks.wished, (LAMP, ("n", 1)), (BadService, BadHistory)),
    (clerks.is_enough, ((2, 1), 1), (BadClerk, BadWindow)),
    (clerks.clerk_breaks, ((2, 1), 2), (BadClerk, BadWindow)),
    (clerks.does_serve, (LAMP, (2, 1), ("n", 1)), (BadService, BadClerk, BadHistory)),
    (lots.beside, (LAMP, COUNT), (BadService, BadService)),
    (lots.renamed, (LAMP, "tn"), (BadService, BadLetters)),
    (lots.can_answer, (LAMP, "n", 1, "tn"), (BadService, BadLot, BadWindow, BadRow)),
    (lots.are_alike_again, (LAMP, LAMP, "n"), (BadService, BadService, BadLot)),
    (lots.row_again, (LAMP, LAMP, "n"), (BadService, BadService, BadLot)),
    (reading.check, (PROGRAM,), (NotText,)),
    (reading.printed, (PROGRAM,), (NotText,)),
    (reading.run, (PROGRAM,), (NotText,)),
)

# What right values may raise together; each of these errors has tests of its own.
TOGETHER = {again.part: NoAsk, papers.second_broken: NotBorne, orders.may_swap: Same, lots.beside: Shared,
            reading.check: InvalidText, reading.printed: InvalidText, reading.run: InvalidText}

KINDS = (None, True, False, 0, 1, 2, -1, 41, 10 ** 60, -10 ** 60, "", "n", "t", "tn", "x", "N", "\u00e9", "\n", "n" * 61,
         (), ("n",), (0, "x"), ("x", 0), [], ["n", "t"], [0, "x"], {}, {"n": 0}, {0: "x"}, {(0, "x"): (0, "x")})


def deep(make, depth):
    """A value nested so deep."""
    value = make(1)
    for _ in range(depth - 1):
        value = make(value)
    return value


def odd_values():
    """Values of all kinds, and services and histories with such values as their parts."""
    asks, rows = LAMP
    values = list(KINDS)
    values += [deep(lambda value: (value,), 30), deep(lambda value: [value], 30), deep(lambda value: {1: value}, 30),
               deep(lambda value: (value, [value]), 8)]
    for kind in KINDS:
        values += [(kind, rows), (asks, kind), (asks, (rows[0], kind)), (asks, (rows[0], ((0, "x"), kind))),
                   (asks, (rows[0], ((0, "x"), (kind, "x")))), (asks, (rows[0], ((0, "x"), (0, kind)))),
                   (kind,), ("n", kind), ("n", 1, kind), [kind], {1: kind}, (kind, kind), (1, kind), (kind, 1),
                   ("bears", kind), ("bears", (kind, 1)), ("bears", (0, kind)), ("broken", kind), (kind, (0, 1)),
                   ("broken", ("n", "t", kind, "t")), ("broken", ("n", "t", 2, kind)), ("broken", [kind])]
    values += [("bears", (0, 1)), ["bears", (0, 1)], ("broken", ("n", "t", 2, "t")), (41, 41), (42, 41), (41, 42)]
    values += [[asks, rows], (asks, list(rows)), (asks, [list(parts) for parts in rows])]
    return values


def is_small_whole(value, least, most):
    return type(value) is int and least <= value <= most


def is_plain_service(value):
    """Whether one of the odd values, each made of a lamp, is a service still."""
    if type(value) is not tuple or len(value) != 2 or value[0] != "nt" or type(value[1]) is not tuple:
        return False
    if len(value[1]) != 2 or any(type(parts) is not tuple or len(parts) != 2 for parts in value[1]):
        return False
    pairs = [pair for parts in value[1] for pair in parts]
    return all(type(pair) is tuple and len(pair) == 2 and is_small_whole(pair[0], 0, 1) and type(pair[1]) is str
               and pair[1] in ("n", "t", "x", "y") for pair in pairs)


def is_plain_history(value, letters):
    """Whether one of the odd values is a history with these letters, for ever."""
    if type(value) is not tuple:
        return False
    new = 0
    for item in value:
        if type(item) is str and item in letters:
            new += 1
        elif not is_small_whole(item, 1, new):
            return False
    return True


def is_plain_clerk(value):
    """Whether any value is a clerk."""
    return (type(value) is tuple and len(value) == 2 and is_small_whole(value[0], 1, 41)
            and is_small_whole(value[1], 0, 41))


def is_right(tell, error, value):
    """Whether a value is right for a parameter with that error."""
    if error is None:
        return True
    if error is NotText:
        return type(value) is str
    if error is BadLetters:
        return type(value) is str and value == "tn"
    if error is NoAsk:
        return type(value) is str and value in ("n", "t")
    if error is BadClerk:
        return is_plain_clerk(value)
    if error is BadWindow and tell in (clerks.is_enough, clerks.clerk_breaks):
        return is_small_whole(value, 0, 40)
    if error is BadService:
        return is_plain_service(value)
    if error is BadRow:
        return type(value) is str and value in ("", "n", "t", "tn")
    if error is BadLot:
        # An empty lot is one, but part needs more: that error has a test of its own.
        return type(value) is str and value in ("", "n", "t")
    if error is BadWindow:
        return value is None or is_small_whole(value, 0, 40)
    return is_plain_history(value, ("n", "t", "x") if tell is again.firsts else ("n", "t"))


class AnyValues(unittest.TestCase):
    def call(self, tell, passed):
        """What a call tells or the class of the error that it raises, and that it changes nothing it is passed."""
        kept = copy.deepcopy(passed)
        told = []
        for _ in range(2):
            try:
                told.append(tell(*passed))
            except ServiceError as error:
                self.assertIsInstance(error, ValueError)
                told.append(type(error))
            self.assertEqual(repr(passed), repr(kept))
        self.assertEqual(repr(told[0]), repr(told[1]))
        return told[0]

    def test_all_functions_are_called(self):
        names = [name for names in INTERFACE.values() for name in names]
        self.assertEqual([tell.__name__ for tell, _, _ in CALLS], names)

    def test_functions_are_defined_where_the_interface_lists_them(self):
        for module, names in INTERFACE.items():
            for name in names:
                self.assertEqual(getattr(module, name).__module__, module.__name__)

    def test_one_value_that_is_wrong(self):
        values = odd_values()
        for tell, right, errors in CALLS:
            for at, error in enumerate(errors):
                for value in values:
                    passed = right[:at] + (value,) + right[at + 1:]
                    told = self.call(tell, passed)
                    wrong = not is_right(tell, error, value)
                    raised = isinstance(told, type) and told is not TOGETHER.get(tell)
                    self.assertIs(raised, wrong, (tell.__name__, at, value))
                    if raised:
                        self.assertIs(told, error, (tell.__name__, at, value))

    def test_of_two_that_are_wrong_the_first_one_is_told(self):
        wrongs = (True, -1, "X", ["n"], {"n": 1}, ("nt", ()), [])
        for tell, right, errors in CALLS:
            for first in range(len(errors)):
                for second in range(first + 1, len(errors)):
                    for value in wrongs:
                        for other in wrongs:
                            passed = list(right)
                            passed[first], passed[second] = value, other
                            if errors[first] is not None:
                                self.assertIs(self.call(tell, tuple(passed)), errors[first])

    def test_all_wrong_at_once(self):
        for tell, right, errors in CALLS:
            for value in (False, 10 ** 30, "X", ["n"], {"n": 1}):
                told = self.call(tell, (value,) * len(right))
                first = TOGETHER[tell] if errors[0] is NotText and isinstance(value, str) else errors[0]
                self.assertIs(told, first or False)

    def test_functions_that_are_asked_whether_tell_true_or_false(self):
        for value in odd_values():
            self.assertIs(services.is_service(value), is_plain_service(value))
            wished = is_plain_history(value, ("n", "t"))
            self.assertIs(again.is_history(LAMP, "nt", None, value), wished)
            # Any two unlike numbers tell the lamp's stands apart.
            right = [repr(("bears", (one, other))) for one in range(3) for other in range(3) if one != other]
            right += [repr(("bears", (0, 41))), repr(("bears", (0, 10 ** 60))), repr(("bears", (41, 1))),
                      repr(("bears", (10 ** 60, 1)))]
            self.assertIs(papers.judged(LAMP, "n", 1, value), repr(value) in right, value)
            self.assertIs(papers.judged(LAMP, "n", 2, value), repr(value) == "('broken', ('n', 't', 2, 't'))", value)
        for tell, passed in ((services.are_alike, (LAMP, LAMP)), (services.are_alike, (LAMP, ("nt", LAMP[1][::-1]))),
                             (again.bears, (LAMP, "n", 1)), (again.bears, (LAMP, "n", None)),
                             (papers.answers_again, (COUNT, "g", 1)), (papers.answers_again, (COUNT, "g", 2)),
                             (papers.answers_again, (LAMP, "n", 2)), (orders.may_swap, (LAMP, "n", "t")),
                             (orders.can_lead, (LAMP, "n", "n")), (orders.can_lead, (LAMP, "nt", "tn")),
                             (clerks.is_enough, ((2, 1), 1)), (clerks.is_enough, ((2, 1), 2)),
                             (clerks.does_serve, (LAMP, (1, 0), ("n",))), (clerks.does_serve, (LAMP, (1, 0), ("t", 1))),
                             (lots.are_alike_again, (LAMP, LAMP, "n")),
                             (lots.are_alike_again, (LAMP, ("nt", LAMP[1][::-1]), "n"))):
            self.assertIs(type(tell(*passed)), bool)

    def test_what_two_parameters_tell_together_comes_last(self):
        self.assertIs(self.call(services.are_alike, (LAMP, COUNT)), Unlike)
        self.assertIs(self.call(services.parting, (COUNT, LAMP)), Unlike)
        self.assertIs(self.call(services.parting, (COUNT, None)), BadService)
        self.assertIs(self.call(again.part, (LAMP, "")), NoAsk)
        self.assertIs(self.call(again.part, (None, "")), BadService)
        self.assertIs(self.call(papers.second_broken, (LAMP, "n", 2)), NotBorne)
        self.assertIs(self.call(papers.second_broken, (LAMP, "n", 41)), BadWindow)
        self.assertIs(self.call(papers.broken, (wheel(31), "b", 2)), TooMany)
        self.assertIs(self.call(papers.broken, (wheel(31), "b", 41)), BadWindow)
        self.assertIs(self.call(orders.may_swap, (LAMP, "n", "n")), Same)
        self.assertIs(self.call(orders.may_swap, (None, "n", "n")), BadService)
        self.assertIs(self.call(orders.may_swap, (LAMP, "x", "x")), NoAsk)
        self.assertIs(self.call(lots.beside, (LAMP, ring(2))), Shared)
        self.assertIs(self.call(lots.beside, (ring(2), ("ab", LAMP[1]))), TooMany)
        self.assertIs(self.call(lots.beside, (LAMP, None)), BadService)
        # What two parameters tell together is told ahead of the next one.
        for tell in (lots.are_alike_again, lots.row_again):
            self.assertIs(self.call(tell, (LAMP, COUNT, "x")), Unlike)
            self.assertIs(self.call(tell, (LAMP, None, "x")), BadService)
            self.assertIs(self.call(tell, (LAMP, LAMP, "x")), BadLot)


if __name__ == "__main__":
    unittest.main()
