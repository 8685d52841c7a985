"""Promise 15: programs, what is wrong in them, how they are printed, what they are answered."""

import itertools
import random
import re
import unittest

from oftenasked.again import bears, window_of
from oftenasked.errors import (BadAnswer, BadAsks, BadLot, BadRow, BadWindow, InvalidText, Lacking, NoAsk, NoStand,
                               NotText, ServiceError, TooMany, Twice, Unknown)
from oftenasked.lots import can_answer
from oftenasked.papers import answers_again
from oftenasked.reading import check, printed, run
from oftenasked.services import answers
from tests.plain import LAMP, lots_of, ring, some_services

KEYS = ("asks", "stand", "ask", "answers", "bears", "window", "again", "can", "ever")
OFF = "stand OFF=t>ON x,n>ON x;"
ON = "stand ON=n>ON x,t>OFF y;"
HEAD = "asks nt;" + OFF + ON
# What may stand next, and where it leads: each row a place in a program, "" its end.
PLACES = {
    "begin": {"asks": "asks"}, "asks": {"word": "told"}, "told": {";": "stands"},
    "stands": {"stand": "name", "ask": "key", "": ""}, "name": {"name": "is"}, "is": {"=": "part"},
    "part": {"word": "to"}, "to": {">": "next"}, "next": {"name": "answer"}, "answer": {"word": "more"},
    "more": {",": "part", ";": "stands"},
    "asked": {"ask": "key", "": ""},
    "key": {"answers": "last", "window": "last", "bears": "lot", "again": "lot", "can": "can"},
    "lot": {"word": "span"}, "span": {"number": "end", "ever": "end"}, "last": {"word": "end"}, "end": {";": "asked"},
    "can": {"word": "spans"}, "spans": {"number": "last", "ever": "last"},
}
KINDS = (("word", "[a-z]{1,60}"), ("name", "[A-Z]{1,8}"), ("number", "0|[1-9][0-9]?"))


def first_wrong(text):
    """The place that the form of a text is wrong at, None: its pieces go from place to place."""
    place = "begin"
    for piece in re.finditer("[A-Za-z0-9]+|[^ \n]", text):
        told = piece.group()
        kinds = [told] if told in KEYS else [kind for kind, form in KINDS if re.fullmatch(form, told)] or [told]
        if kinds[0] not in PLACES[place]:
            return piece.start()
        place = PLACES[place][kinds[0]]
    return None if "" in PLACES[place] else len(text)


def wrong(text):
    """The error of a text as its class and its fields, None if there is none."""
    try:
        return None if check(text) is None else "told"
    except ServiceError as error:
        return (type(error), *vars(error).values())


def named(at):
    """The name of a stand."""
    return "ABCDEFGHIJ"[at // 10] + "ABCDEFGHIJ"[at % 10]


def program(service, asked):
    """The text of a program, tightly written."""
    asks, rows = service
    lines = [f"asks {asks};"]
    for at, parts in enumerate(rows):
        told = [f"{ask}>{named(after)} {answer}" for ask, (after, answer) in zip(asks, parts)]
        lines.append(f"stand {named(at)}=" + ",".join(told) + ";")
    return "".join(lines) + "".join(f"ask {told};" for told in asked)


def loosely(source, text):
    """The same program with blanks and line ends wherever they may stand."""
    pieces = re.findall("[A-Za-z0-9]+|[^ \n]", text)
    told = source.choice(("", " ", "\n"))
    for piece, later in zip(pieces, pieces[1:] + [";"]):
        told += piece
        if piece.isalnum() and later.isalnum():
            told += source.choice((" ", "\n", "  ", " \n"))
        else:
            told += source.choice(("", "", " ", "\n", "\n\n "))
    return told


def some_asks(source, asks, many):
    """What a program may ask, and what the other modules tell."""
    for _ in range(many):
        row = "".join(source.choice(asks) for _ in range(source.randrange(1, 7)))
        lot = source.choice(lots_of(asks)[1:])
        window = source.choice((0, 1, 2, 9, 10, 39, 40, None))
        span = "ever" if window is None else str(window)
        yield source.choice((
            (f"answers {row}", answers, (row,)), (f"bears {lot} {span}", bears, (lot, window)),
            (f"window {lot}", window_of, (lot,)), (f"again {lot} {span}", answers_again, (lot, window)),
            (f"can {lot} {span} {row}", can_answer, (lot, window, row))))


class Run(unittest.TestCase):
    def test_against_the_other_modules(self):
        source = random.Random(101)
        services = [LAMP, ring(4), *some_services(102, 40, "ab", 3, "xxy"), *some_services(103, 20, "cxz", 2, "xy")]
        kinds = set()
        for service in services:
            asked = list(some_asks(source, service[0], 12))
            wished = tuple(tell(service, *passed) for _, tell, passed in asked)
            kinds |= {(tell.__name__, type(told)) for (_, tell, _), told in zip(asked, wished)}
            text = program(service, [told for told, _, _ in asked])
            for written in (text, loosely(source, text), loosely(source, text), printed(text)):
                if len(written) <= 2000:
                    self.assertIsNone(check(written))
                    self.assertEqual(repr(run(written)), repr(wished), written)
        self.assertEqual(kinds, {("answers", str), ("bears", bool), ("window_of", int), ("window_of", type(None)),
                                 ("answers_again", bool), ("can_answer", tuple)})

    def test_nothing_is_asked(self):
        self.assertEqual(run(HEAD), ())

    def test_the_first_stand_is_the_begin(self):
        self.assertEqual(run("asks nt;" + OFF + ON + "ask answers tt;"), ("xy",))
        self.assertEqual(run("asks nt;" + ON + OFF + "ask answers tt;"), ("yx",))

    def test_parts_in_any_order(self):
        for parts in itertools.permutations(("a>A x", "b>B y", "c>A z")):
            text = "asks abc;stand A=" + ",".join(parts) + ";stand B=b>A u,a>B v,c>B w;ask answers abaccb;"
            self.assertEqual(run(text), ("xyvwwu",))

    def test_windows(self):
        asked = "ask can t 0 tt;ask can t 1 tt;ask can t 40 tt;ask can t ever tt;ask bears n 1;ask bears n 2;"
        self.assertEqual(run(HEAD + asked + "ask window n;ask window t;ask window nt;ask again n 0;ask again n 10;"),
                         (("x", "y"), ("x", "xy"), ("x", "xy"), ("x", "xy"), True, False, 1, 0, 0, True, False))
        self.assertEqual(run("asks a;stand A=a>A x;ask window a;ask bears a ever;ask again a ever;"), (None, True, True))

    def test_again_is_about_all_answers(self):
        text = "asks gs;stand A=g>A a,s>B o;stand B=g>B b,s>B o;ask bears g ever;ask again g 1;ask again g 2;"
        self.assertEqual(run(text), (True, True, False))

    def test_errors_are_those_of_check(self):
        for text in (None, 5, "", "asks", "asks tn;", "asks nt;", HEAD + "ask bears x 1;", HEAD + ";", "x" * 2001):
            told = wrong(text)
            for tell in (run, printed):
                with self.assertRaises(told[0]) as caught:
                    tell(text)
                self.assertEqual(tuple(vars(caught.exception).values()), told[1:])


class Printed(unittest.TestCase):
    def test_word_for_word(self):
        loose = "\n asks  nt\n;stand\nA =t > B x , n>A\ny;stand B=n>B x,t>A z;ask window\n\nnt ; ask again n 0;\n "
        self.assertEqual(printed(loose), "asks nt;\nstand A = n > A y, t > B x;\nstand B = n > B x, t > A z;\n"
                                         "ask window nt;\nask again n 0;")
        self.assertEqual(printed("asks a;stand ABCDEFGH=a>ABCDEFGH z;"), "asks a;\nstand ABCDEFGH = a > ABCDEFGH z;")
        self.assertEqual(printed(HEAD + "ask answers nt;ask bears t 40;ask can nt ever t;"),
                         "asks nt;\nstand OFF = n > ON x, t > ON x;\nstand ON = n > ON x, t > OFF y;\n"
                         "ask answers nt;\nask bears t 40;\nask can nt ever t;")

    def test_printed_of_a_printed_text(self):
        source = random.Random(104)
        for service in [LAMP, ring(9), *some_services(105, 20, "abcd", 3, "xyz")]:
            text = program(service, [told for told, _, _ in some_asks(source, service[0], 9)])
            told = printed(text)
            self.assertEqual(printed(told), told)
            self.assertEqual(run(told), run(text))
            for _ in range(3):
                self.assertEqual(printed(loosely(source, text)), told)

    def test_it_can_be_longer_than_2000_signs(self):
        text = "asks abcd;stand A=" + ",".join(f"{ask}>A x" for ask in "dbca") + ";"
        text += "ask can a 1 b;" * ((2000 - len(text)) // 14)
        text += "\n" * (2000 - len(text))
        wide = "asks ab;" + "".join(f"stand {named(at)}=a>AA x,b>{named(at)} y;" for at in range(40))
        wide += "ask bears a 1;" * ((2000 - len(wide)) // 14)
        for whole in (text, wide):
            self.assertLessEqual(len(whole), 2000)
            told = printed(whole)
            if len(told) > 2000:
                with self.assertRaises(InvalidText) as caught:
                    check(told)
                self.assertEqual(caught.exception.place, 2000)
        self.assertGreater(len(printed(wide)), 2000)
        self.assertEqual(len(run(text)), text.count("ask can"))


class Form(unittest.TestCase):
    def invalid(self, text, place):
        self.assertEqual(first_wrong(text), place, text)
        self.assertEqual(wrong(text), (InvalidText, place), text)

    def test_values_that_are_no_texts(self):
        for value in (None, True, False, 0, 2001, 10 ** 40, (), ("asks",), [], [HEAD], {}, {HEAD: 1}, (HEAD,)):
            for tell in (check, printed, run):
                with self.assertRaises(NotText, msg=repr(value)):
                    tell(value)

    def test_right_texts(self):
        for text in (HEAD, HEAD + "\n", "\n" + HEAD, HEAD + "ask answers n;", HEAD.replace(";", " ;\n")):
            self.assertIsNone(check(text))
            self.assertIsNone(first_wrong(text))

    def test_blanks_and_line_ends_alone(self):
        for sign in ("\t", "\r", "\v", "\f", "\u00a0", "\u2028", "\x00"):
            self.invalid("asks" + sign + "nt;", 4)
            self.invalid(HEAD + sign, len(HEAD))
            self.invalid(sign + HEAD, 0)

    def test_the_text_ends_too_early(self):
        whole = HEAD + "ask answers nt;ask bears n 1;ask window n;ask again n ever;ask can t 2 tt;"
        pieces = [piece.end() for piece in re.finditer("[A-Za-z0-9]+|[^ \n]", whole)]
        right = 0
        for end in [0] + pieces:
            # Behind the asks and behind each stand and each ask the text may end.
            told = wrong(whole[:end])
            if whole[:end].endswith(";"):
                right += told is None
                self.assertNotEqual(told and told[0], InvalidText)
            else:
                self.invalid(whole[:end], end)
                self.invalid(whole[:end] + " \n ", end + 3)
        self.assertEqual(right, 6)

    def test_it_is_cut_within_a_word(self):
        for text, place in (("as", 0), ("asks nt;st", 8), ("asks nt;stand OFF=t>ON x,n>ON x;a", 32),
                            (HEAD + "ask be", len(HEAD) + 4), (HEAD + "ask bears n ev", len(HEAD) + 12)):
            self.invalid(text, place)

    def test_any_piece_in_the_place_of_any_other(self):
        whole = HEAD + "ask answers nt;ask bears n 1;ask window n;ask again n ever;ask can t 2 tt;"
        others = KEYS + ("n", "nt", "ON", "1", "0", "00", "01", "100", "nT", "Nt", "n1", "1n", "ONx", "=", ";", ",", ">",
                         "?", "-", "_", "\u00e9", "\u00c9", "\u0661", "'", "\\", "n" * 60, "n" * 61, "O" * 8, "O" * 9)
        seen = set()
        for piece in re.finditer("[A-Za-z0-9]+|[^ \n]", whole):
            for other in others:
                for text in (whole[:piece.start()] + " " + other + " " + whole[piece.end():],
                             whole[:piece.start()] + other + whole[piece.end():],
                             whole[:piece.start()] + other + " " + whole[piece.start():]):
                    self.agree(text, seen)
            self.agree(whole[:piece.start()] + whole[piece.end():], seen)
        self.assertEqual(seen, {True, False})

    def agree(self, text, seen):
        """The form of a text is wrong at the place that the plain search tells, or it is not wrong."""
        place, told = first_wrong(text), wrong(text)
        seen.add(place is None)
        if place is None:
            self.assertNotEqual(told and told[0], InvalidText, text)
        else:
            self.assertEqual(told, (InvalidText, place), text)

    def test_signs_at_random(self):
        source = random.Random(106)
        whole = HEAD + "ask answers nt;ask bears n 1;ask window n;ask again n ever;ask can t 2 tt;"
        seen = set()
        for _ in range(4000):
            text = list(whole)
            for _ in range(source.randrange(1, 4)):
                at = source.randrange(len(text))
                text[at:at + source.randrange(0, 3)] = source.choice(["", *" \n=;,>ntON019?", "ask", "stand"])
            self.agree("".join(text), seen)
        self.assertEqual(seen, {True, False})

    def test_keys_stand_only_as_told(self):
        for key in KEYS:
            self.invalid(f"asks {key};", 5)
            self.invalid(f"asks nt;stand A={key}>A x;", 16)
            self.invalid(f"asks nt;stand A=n>A {key};", 20)
            self.invalid(HEAD + f"ask answers {key};", len(HEAD) + 12)
            self.invalid(HEAD + f"ask bears {key} 1;", len(HEAD) + 10)
            self.invalid(HEAD + f"ask window {key};", len(HEAD) + 11)
            self.invalid(HEAD + f"ask again {key} 1;", len(HEAD) + 10)
            self.invalid(HEAD + f"ask can {key} 1 n;", len(HEAD) + 8)
            self.invalid(HEAD + f"ask can n 1 {key};", len(HEAD) + 12)
            if key != "ever":
                self.invalid(HEAD + f"ask bears n {key};", len(HEAD) + 12)
            if key != "asks":
                self.invalid(key + " nt;", 0)
            if key not in ("stand", "ask"):
                self.invalid("asks nt;" + key + " A", 8)
            if key not in ("answers", "bears", "window", "again", "can"):
                self.invalid(HEAD + f"ask {key} n;", len(HEAD) + 4)
        # Words that only begin or end as a key does are words.
        self.assertEqual(run("asks acn;stand A=a>A x,c>A y,n>A z;ask answers cann;ask answers acan;"), ("yxzz", "xyxz"))

    def test_words_of_60_and_61_letters(self):
        text = HEAD + "ask answers " + "n" * 60 + ";"
        self.assertEqual(run(text), ("x" * 60,))
        self.invalid(HEAD + "ask answers " + "n" * 61 + ";", len(HEAD) + 12)
        self.invalid(HEAD + "ask can n 1 " + "n" * 61 + ";", len(HEAD) + 12)
        self.assertEqual(run(HEAD + "ask can t 0 " + "t" * 60 + ";"), (("x", "y") * 30,))
        self.invalid("asks " + "n" * 61 + ";", 5)
        self.assertEqual(wrong("asks " + "n" * 60 + ";"), (BadAsks,))

    def test_names_of_8_and_9_letters(self):
        self.assertIsNone(check("asks a;stand ABCDEFGH=a>ABCDEFGH x;"))
        self.invalid("asks a;stand ABCDEFGHI=a>ABCDEFGHI x;", 13)
        self.invalid("asks a;stand A=a>ABCDEFGHI x;", 17)

    def test_numbers_of_one_and_two_figures(self):
        for number in ("0", "1", "9", "10", "39", "40"):
            self.assertIsNone(check(HEAD + f"ask bears n {number};"))
        for number in ("41", "50", "99"):
            self.assertEqual(wrong(HEAD + f"ask bears n {number};"), (BadWindow,))
        for number in ("00", "01", "09", "010", "100", "000", "999", "-1", "+1", "1.0"):
            text = HEAD + f"ask bears n {number};"
            place = len(HEAD) + 12 + ("." in number)
            self.invalid(text, place)

    def test_what_runs_together(self):
        for text, place in (("asksnt;", 0), ("asks nt;standOFF=t>ON x,n>ON x;", 8), ("asks nt;stand OFF=t>ONx,n>ON x;", 20),
                            ("asks nt;stand OFF=t>ON x,n>ON x;askanswers n;", 32), (HEAD + "ask answersn;", len(HEAD) + 4),
                            (HEAD + "ask bears n1;", len(HEAD) + 10), (HEAD + "ask bears never;", len(HEAD) + 15),
                            (HEAD + "ask can n 1n;", len(HEAD) + 10), (HEAD + "ask can n evern;", len(HEAD) + 10)):
            self.invalid(text, place)

    def test_stands_stand_ahead_of_the_first_ask(self):
        text = "asks nt;" + OFF + "ask window n;" + ON
        self.invalid(text, text.index("stand ON"))
        self.invalid("ask window n;" + HEAD, 0)
        self.invalid(HEAD + "asks nt;", len(HEAD))

    def test_2000_signs_and_2001(self):
        self.assertIsNone(check(HEAD + " " * (2000 - len(HEAD))))
        self.assertIsNone(check("\n" * (2000 - len(HEAD)) + HEAD))
        for text in (HEAD + " " * (2001 - len(HEAD)), "?" * 2001, "x" * 5000, "asks tn;" + " " * 2000, " " * 2001,
                     HEAD + "ask bears x 99;" + "\n" * 2000):
            self.assertEqual(wrong(text), (InvalidText, 2000))
        self.assertEqual(wrong(" " * 2000), (InvalidText, 2000))
        self.assertEqual(wrong("?" * 2000), (InvalidText, 0))


def many_stands(many, asks="nt"):
    """The stands of a program, as short as they can be."""
    parts = ",".join(f"{ask}>AA x" for ask in asks)
    return "".join(f"stand {named(at)}={parts};" for at in range(many))


# One fault each, in the order in which they are told; where it stands: ahead of the stands, in the first stand, in
# the second one, behind them, in what is asked.
FAULTS = (
    ("asks", "tn", (BadAsks,)),
    ("one", "x>ON x,t>ON x", (NoAsk,)),
    ("one", "nt>ON x,t>ON x", (NoAsk,)),
    ("one", "n>ON x,n>ON x,t>ON x", (Twice, "n")),
    ("one", "n>ON x,t>ON xy", (BadAnswer,)),
    ("one", "t>ON x", (Lacking, "OFF")),
    ("name", "OFF", (Twice, "OFF")),
    ("two", "n>ON x,x>ON x", (NoAsk,)),
    ("two", "n>ON x,t>ON x,t>ON x", (Twice, "t")),
    ("two", "n>ON xx,t>ON x", (BadAnswer,)),
    ("two", "n>ON x", (Lacking, "ON")),
    ("third", "n>NONE x,t>OFF x", (Unknown, "NONE")),
    ("asked", "answers ntx", (BadRow,)),
    ("asked", "bears tn 1", (BadLot,)),
    ("asked", "bears n 41", (BadWindow,)),
    ("asked", "window x", (BadLot,)),
    ("asked", "again nn 1", (BadLot,)),
    ("asked", "again n 99", (BadWindow,)),
    ("asked", "can x 1 nt", (BadLot,)),
    ("asked", "can n 41 nt", (BadWindow,)),
    ("asked", "can n 1 ntx", (BadRow,)),
)
RIGHT = {"asks": "nt", "one": "n>ON x,t>ON x", "name": "ON", "two": "n>ON x,t>OFF y", "third": "n>ON x,t>OFF x"}


def written(faults):
    """A program with these faults, all of them at once."""
    parts = dict(RIGHT)
    asked = ["answers nt"]
    for at, told, _ in faults:
        if at == "asked":
            asked.append(told)
        else:
            parts[at] = told
    return ("asks {asks};stand OFF={one};stand {name}={two};stand LAST={third};".format(**parts)
            + "".join(f"ask {told};" for told in asked))


class Faults(unittest.TestCase):
    def test_one_fault(self):
        self.assertIsNone(check(written(())))
        for fault in FAULTS:
            self.assertEqual(wrong(written((fault,))), fault[2], fault)

    def test_two_faults_at_once(self):
        for first, second in itertools.combinations(FAULTS, 2):
            if first[0] == second[0] != "asked":
                continue
            text = written((first, second))
            self.assertEqual(wrong(text), first[2], text)
            # Whatever else is wrong, the form of the text is told first, and its length ahead of that.
            self.assertEqual(wrong(text + "?"), (InvalidText, len(text)))
            self.assertEqual(wrong(text + " " * 2000), (InvalidText, 2000))
            if first[0] == second[0]:
                self.assertEqual(wrong(written((second, first))), second[2], text)

    def test_three_faults_at_once(self):
        source = random.Random(107)
        for _ in range(500):
            some = sorted(source.sample(range(len(FAULTS)), 3))
            faults = [FAULTS[at] for at in some]
            if len({fault[0] for fault in faults if fault[0] != "asked"}) == sum(fault[0] != "asked" for fault in faults):
                self.assertEqual(wrong(written(faults)), faults[0][2], faults)

    def test_asks(self):
        for asks in ("tn", "nn", "abcde", "ba", "abca", "nt" * 30, "abcdefghijklmnopqrstuvwxyz"):
            self.assertEqual(wrong(f"asks {asks};"), (BadAsks,), asks)
        for asks in ("a", "az", "abcd", "wxyz"):
            self.assertEqual(wrong(f"asks {asks};"), (NoStand,), asks)
            self.assertIsNone(check(f"asks {asks};" + many_stands(1, asks)))

    def test_faults_within_one_stand_by_the_order_of_the_text(self):
        for parts, error in (
                ("x>A xx", (NoAsk,)), ("n>A xx,x>A x", (BadAnswer,)), ("n>A x,n>A xx", (Twice, "n")),
                ("n>A x,x>A x,n>A x", (NoAsk,)), ("n>A x,n>A x,x>A x", (Twice, "n")), ("n>A xx,n>A x", (BadAnswer,)),
                ("n>A x,n>A x", (Twice, "n")), ("nn>A x", (NoAsk,)), ("n>B x", (Lacking, "A")), ("t>B x", (Lacking, "A")),
                ("n>B x,t>C x", (Unknown, "B")), ("t>C x,n>B x", (Unknown, "C")), ("n>A x,t>A x,n>A x", (Twice, "n")),
                ("n>A x,t>A x,t>A xx", (Twice, "t")), ("n>A x,t>A x,x>A x", (NoAsk,)), ("n>B xx,t>A x", (BadAnswer,))):
            self.assertEqual(wrong(f"asks nt;stand A={parts};"), error, parts)

    def test_stands_told_a_second_time(self):
        self.assertEqual(wrong(HEAD + OFF), (Twice, "OFF"))
        self.assertEqual(wrong(HEAD + "stand ON=x>ON x;"), (Twice, "ON"))
        self.assertEqual(wrong(HEAD + ON + OFF), (Twice, "ON"))
        # The first one lacks an ask, which is told ahead of it.
        self.assertEqual(wrong("asks nt;stand A=n>A x;stand A=n>A x;"), (Lacking, "A"))

    def test_names_of_no_stand(self):
        self.assertEqual(wrong("asks nt;stand A=n>B x,t>C x;stand B=n>D x,t>A x;"), (Unknown, "C"))
        self.assertEqual(wrong("asks nt;stand A=n>B x,t>A x;stand B=n>D x,t>E x;"), (Unknown, "D"))
        # Stands told later will do; a fault in one of them is told ahead of an unknown name.
        self.assertIsNone(check("asks n;stand A=n>B x;stand B=n>C x;stand C=n>A x;"))
        self.assertEqual(wrong("asks n;stand A=n>Z x;stand B=n>A xx;"), (BadAnswer,))
        self.assertEqual(wrong("asks n;stand A=n>OF x;stand OFF=n>A x;"), (Unknown, "OF"))

    def test_no_stand(self):
        self.assertEqual(wrong("asks nt;"), (NoStand,))
        self.assertEqual(wrong("asks nt;ask bears x 99;ask answers x;"), (NoStand,))
        self.assertEqual(wrong("asks nt;ask window n"), (InvalidText, 20))

    def test_forty_stands_and_more(self):
        for asks in ("n", "nt"):
            self.assertIsNone(check(f"asks {asks};" + many_stands(40, asks)))
            for many in (41, 42, 60):
                self.assertEqual(wrong(f"asks {asks};" + many_stands(many, asks)), (TooMany, 40))
        text = "asks n;" + many_stands(41, "n")
        self.assertEqual(wrong(text + "ask answers x;"), (TooMany, 40))
        self.assertEqual(wrong(text.replace("stand EA=n>AA", "stand EA=n>ZZ")), (Unknown, "ZZ"))
        self.assertEqual(wrong(text + "stand AA=n>AA x;"), (Twice, "AA"))
        self.assertEqual(wrong(text.replace("stand EA=n>AA x", "stand EA=n>AA xx")), (BadAnswer,))

    def test_rows_lots_and_windows(self):
        for told in ("answers tn", "answers nn", "bears nt 0", "can nt ever ttt", "window nt", "again t 40"):
            self.assertIsNone(check(HEAD + f"ask {told};"))
        for told, error in (("answers x", BadRow), ("answers ntntx", BadRow), ("bears tn 41", BadLot),
                            ("bears nx 1", BadLot), ("bears nn ever", BadLot), ("window tn", BadLot),
                            ("again x 41", BadLot), ("again t 41", BadWindow), ("can tn 41 x", BadLot),
                            ("can t 41 x", BadWindow), ("can t ever x", BadRow), ("can t 40 nx", BadRow)):
            self.assertEqual(wrong(HEAD + f"ask {told};"), (error,), told)

    def test_what_is_asked_by_the_order_of_the_text(self):
        for told, other in itertools.permutations((("answers x", BadRow), ("bears x 1", BadLot), ("bears n 41", BadWindow)), 2):
            self.assertEqual(wrong(HEAD + f"ask window n;ask {told[0]};ask {other[0]};"), (told[1],))


if __name__ == "__main__":
    unittest.main()
