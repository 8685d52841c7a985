"""Programs: what their texts are made of, and what is wrong in them (promise 15).

A stand is told here as a pair of its name and its parts, a part as (ask, next name, answer), and what is asked
behind the stands as (key, words), all as they stand in the text.
"""

from oftenasked.again import need_lot, need_window
from oftenasked.errors import BadAnswer, BadAsks, InvalidText, Lacking, NoAsk, NoStand, NotText, TooMany, Twice, Unknown
from oftenasked.services import MOST_ASKS, MOST_STANDS, need_row
from oftenasked.values import is_ascending, is_letter

MOST_SIGNS = 2000
MOST_IN_WORD = 60
MOST_IN_NAME = 8
MOST_IN_NUMBER = 2
BLANKS = (" ", "\n")
SIGNS = ("=", ";", ",", ">")
KEYS = ("asks", "stand", "ask", "answers", "bears", "window", "again", "can", "ever")
SMALL = "abcdefghijklmnopqrstuvwxyz"
CAPITALS = "ABCDEFGHIJKLMNOPQRSTUVWXYZ"
FIGURES = "0123456789"
# For each key behind ask: what stands behind it, the kinds that each thing may be of.
FORMS = {"answers": (("word",),), "bears": (("word",), ("number", "ever")), "window": (("word",),),
         "again": (("word",), ("number", "ever")), "can": (("word",), ("number", "ever"), ("word",))}


def is_made_of(told, letters):
    """Whether a text is made of these letters only."""
    return all([sign in letters for sign in told])


def kind_of(told):
    """Whether a text is a word, a name or a number; a key and a sign are each a kind of its own."""
    if told in KEYS or told in SIGNS:
        return told
    if is_made_of(told, SMALL) and len(told) <= MOST_IN_WORD:
        return "word"
    if is_made_of(told, CAPITALS) and len(told) <= MOST_IN_NAME:
        return "name"
    if is_made_of(told, FIGURES) and len(told) <= MOST_IN_NUMBER and (told == "0" or told[0] != "0"):
        return "number"
    return "none"


def end_of(text, at):
    """Where what begins at a place of a text ends: letters and figures run together, any other sign stands alone."""
    runs = SMALL + CAPITALS + FIGURES
    end = at + 1
    while text[at] in runs and end < len(text) and text[end] in runs:
        end += 1
    return end


def things_of(text):
    """The words, names, numbers and signs of a text, each as (kind, text, place), and its end as one more."""
    things = []
    at = 0
    while at < len(text):
        end = end_of(text, at)
        if text[at] not in BLANKS:
            things.append((kind_of(text[at:end]), text[at:end], at))
        at = end
    things.append(("end", "", len(text)))
    return things


class Reader:
    """Goes through the things of a text, one after another."""

    def __init__(self, text):
        self.things = things_of(text)
        self.at = 0

    def sees(self, kind):
        """Whether the next thing is of this kind."""
        return self.things[self.at][0] == kind

    def take(self, kinds):
        """The text of the next thing, which must be of one of these kinds; then the one behind it is next."""
        kind, told, place = self.things[self.at]
        if kind not in kinds:
            raise InvalidText(place)
        self.at += 1
        return told

    def take_all(self, many):
        """The texts of the next things, each of which must be of one of its kinds."""
        told = []
        for kinds in many:
            told.append(self.take(kinds))
        return tuple(told)


def read_part(reader):
    """One part of a stand: its ask, the name of the next stand and the answer."""
    ask, _, after, answer = reader.take_all((("word",), (">",), ("name",), ("word",)))
    return ask, after, answer


def read_stand(reader):
    """One stand: its name and its parts."""
    _, name, _ = reader.take_all((("stand",), ("name",), ("=",)))
    parts = [read_part(reader)]
    while reader.take((",", ";")) == ",":
        parts.append(read_part(reader))
    return name, parts


def read_ask(reader):
    """One ask behind the stands: its key and what stands behind it."""
    reader.take(("ask",))
    key = reader.take(tuple(FORMS))
    told = reader.take_all(FORMS[key])
    reader.take((";",))
    return key, told


def read_text(text):
    """The asks, the stands and what is asked, all as a text tells them, which is right only in its form by then."""
    reader = Reader(text)
    _, asks, _ = reader.take_all((("asks",), ("word",), (";",)))
    stands = []
    while reader.sees("stand"):
        stands.append(read_stand(reader))
    wishes = []
    while not reader.sees("end"):
        wishes.append(read_ask(reader))
    return asks, stands, wishes


def need_parts(asks, name, parts):
    """Raise what is wrong first in the parts of a stand."""
    told = []
    for ask, _, answer in parts:
        if not is_letter(ask) or ask not in asks:
            raise NoAsk()
        if ask in told:
            raise Twice(ask)
        if not is_letter(answer):
            raise BadAnswer()
        told.append(ask)
    if len(told) < len(asks):
        raise Lacking(name)


def need_stands(asks, stands):
    """Raise what is wrong first in the stands."""
    names = []
    for name, parts in stands:
        if name in names:
            raise Twice(name)
        need_parts(asks, name, parts)
        names.append(name)
    for _, parts in stands:
        for _, after, _ in parts:
            if after not in names:
                raise Unknown(after)
    if not names:
        raise NoStand()
    if len(names) > MOST_STANDS:
        raise TooMany(MOST_STANDS)


def service_of(asks, stands):
    """The service that stands tell which were checked before."""
    names = [name for name, _ in stands]
    rows = []
    for _, parts in stands:
        pairs = {ask: (names.index(after), answer) for ask, after, answer in parts}
        rows.append(tuple([pairs[ask] for ask in asks]))
    return asks, tuple(rows)


def window_told(span):
    """The window that a number or the key ever tells."""
    return None if span == "ever" else int(span)


def need_wish(service, key, told):
    """Raise what is wrong first in an ask behind the stands."""
    if key == "answers":
        need_row(service, told[0])
        return
    need_lot(service, told[0])
    if key != "window":
        need_window(window_told(told[1]))
    if key == "can":
        need_row(service, told[2])


def read_program(text):
    """The asks, the stands and what is asked, all as any value tells them that is a program."""
    if not isinstance(text, str):
        raise NotText()
    if len(text) > MOST_SIGNS:
        raise InvalidText(MOST_SIGNS)
    asks, stands, wishes = read_text(text)
    if not is_ascending(asks) or len(asks) > MOST_ASKS:
        raise BadAsks()
    need_stands(asks, stands)
    service = service_of(asks, stands)
    for key, told in wishes:
        need_wish(service, key, told)
    return asks, stands, wishes
