"""Papers that show what a service bears or how it is broken, and second answers (promises 6, 8 and 9)."""

from oftenasked.again import MOST_ITEMS, asked, at_most, bears, behind, first_asks, is_told, need_lot, need_window
from oftenasked.errors import NotBorne, TooMany
from oftenasked.services import need_service
from oftenasked.stands import classes_of, come_to, rounds, telling, walk, walks
from oftenasked.values import is_pair, is_whole


def comings(service, lot, window):
    """All least ways to an ask that comes again, for each stand that it was asked from and comes again from.

    A way tells the row of first asks by then, the integer, the answer of the first ask, and the stand by then.
    """
    asks, rows = service
    found = []
    for begin, ahead in walks(service, 0).items():
        for ask in lot:
            after, answer = rows[begin][asks.index(ask)]
            onward = walks(service, after)
            ways = [(ahead + ask + onward[at], len(onward[at]) + 1, answer, at) for at in onward]
            found += [way for way in ways if at_most(way[1], window)]
    return found


def strayings(service, lot):
    """For each ask of the lot and each stand come to that it leads away from: the least row that shows it."""
    asks, rows = service
    told = rounds(rows)
    shown = {}
    for at in come_to(rows):
        for ask in lot:
            after = rows[at][asks.index(ask)][0]
            if told[-1][after] != told[-1][at]:
                shown[(ask, at)] = telling(service, told, after, at)
    return shown


def least_history(found):
    """The least of some histories with one integer, told as first asks, the place of the integer and the integer."""
    if not found:
        return None
    many, new, place, back = min([(len(new), new, place, back) for new, place, back in found])
    if many + 1 > MOST_ITEMS:
        raise TooMany(MOST_ITEMS)
    return tuple(new[:place]) + (back,) + tuple(new[place:])


def broken(service, lot, window):
    """The least history with one integer in which some first ask is answered unlike, None if there is none."""
    need_service(service)
    need_lot(service, lot)
    need_window(window)
    shown = strayings(service, lot)
    ways = [(row, back, (row[-back], at)) for row, back, _, at in comings(service, lot, window)]
    return least_history([(row + shown[key], len(row), back) for row, back, key in ways if key in shown])


def paper(service, lot, window):
    """What shows that the service bears the lot, or how it is broken."""
    history = broken(service, lot, window)
    if history is None:
        return "bears", classes_of(service[1])
    return "broken", history


def are_classes(rows, value):
    """Whether any value tells a number, or None, for each stand, so that stands with one number are alike."""
    if not isinstance(value, tuple) or len(value) != len(rows):
        return False
    if not all([number is None or (is_whole(number) and number >= 0) for number in value]):
        return False
    if value[0] is None:
        return False
    kinds = {}
    for number, parts in zip(value, rows):
        if number is None:
            continue
        kind = [(value[after], answer) for after, answer in parts]
        if None in [later for later, _ in kind] or kinds.setdefault(number, kind) != kind:
            return False
    return True


def is_kept(service, lot, window, classes):
    """Whether each ask that comes again leads from each stand that it can come again from to one of its number."""
    asks, rows = service
    for ask in lot:
        far = behind(service, ask)
        place = asks.index(ask)
        stands = [at for at in far if at_most(far[at] + 1, window)]
        if not all([classes[rows[at][place][0]] == classes[at] for at in stands]):
            return False
    return True


def is_shown(service, history):
    """Whether some first ask of a history is answered unlike in the row of the first asks alone."""
    replies = walk(service, asked(history))[1]
    told = [reply for item, reply in zip(history, replies) if isinstance(item, str)]
    return "".join(told) != walk(service, first_asks(history))[1]


def judged(service, lot, window, paper):
    """Whether any value is a paper that shows what it tells of that lot and window."""
    need_service(service)
    need_lot(service, lot)
    need_window(window)
    if not is_pair(paper):
        return False
    word, shown = paper
    if word == "bears":
        return are_classes(service[1], shown) and is_kept(service, lot, window, shown)
    return word == "broken" and is_told(service, lot, window, shown) and is_shown(service, shown)


def unlike_again(service, lot, window):
    """All least histories that end with an ask that comes again and is answered unlike its first ask."""
    asks, rows = service
    ways = [(row, back, answer, rows[at][asks.index(row[-back])][1])
            for row, back, answer, at in comings(service, lot, window)]
    return [(row, len(row), back) for row, back, answer, reply in ways if reply != answer]


def answers_again(service, lot, window):
    """Whether the service bears the lot and answers each ask that comes again as its first ask."""
    return bears(service, lot, window) and not unlike_again(service, lot, window)


def second_broken(service, lot, window):
    """The least history whose last item is its one integer, answered unlike its first ask, None if there is none."""
    if not bears(service, lot, window):
        raise NotBorne()
    return least_history(unlike_again(service, lot, window))
