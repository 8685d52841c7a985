"""Clerks that number asks and keep answers: what they answer, when they are enough (promises 11 and 12)."""

from oftenasked.again import first_asks, meant, need_history, need_window
from oftenasked.errors import BadClerk, BadWindow
from oftenasked.services import need_service
from oftenasked.stands import walk
from oftenasked.values import is_pair, is_whole

MOST_NUMBERS = 41
MOST_KEPT = 41
# Tells the first ask that it is handed from all others.
FIRST_TOLD = ("a", (((1, "x"),), ((1, "y"),)))


def need_clerk(value):
    """Raise BadClerk for any value that is no clerk."""
    if not is_pair(value) or not is_whole(value[0]) or not is_whole(value[1]):
        raise BadClerk()
    if not 1 <= value[0] <= MOST_NUMBERS or not 0 <= value[1] <= MOST_KEPT:
        raise BadClerk()


def need_known_window(value):
    """Raise BadWindow for any value that is no window, and for the window that lasts for ever."""
    if value is None:
        raise BadWindow()
    need_window(value)


def need_all(service, clerk, history):
    """Raise the errors of a service, a clerk and a history."""
    need_service(service)
    need_clerk(clerk)
    need_history(service, history)


def newest(kept, number):
    """The newest answer that was kept for a number, an empty text if there is none."""
    told = [answer for bears_number, answer in kept if bears_number == number]
    return told[-1] if told else ""


def by_clerk(service, clerk, history):
    """The list of the answers that the items of a history get by a clerk."""
    many, most = clerk
    asks, rows = service
    new = first_asks(history)
    at = handed = 0
    kept = []
    told = []
    for place in meant(history):
        number = place % many
        if number == handed % many:
            at, answer = rows[at][asks.index(new[place])]
            handed += 1
            kept.append((number, answer))
            told.append(answer)
        else:
            told.append(newest(kept[max(0, handed - most):], number))
    return told


def by_wish(service, history):
    """The list of the answers that the items would get if nothing were asked of the service again."""
    alone = walk(service, first_asks(history))[1]
    return [alone[place] for place in meant(history)]


def clerked(service, clerk, history):
    """The tuple of the answers of all items by a clerk, an empty text for none."""
    need_all(service, clerk, history)
    return tuple(by_clerk(service, clerk, history))


def wished(service, history):
    """The tuple of the answers of all items if each one that comes again is answered as its first ask."""
    need_service(service)
    need_history(service, history)
    return tuple(by_wish(service, history))


def is_enough(clerk, window):
    """Whether a clerk's answers are those wished for every service and every history with that window."""
    need_clerk(clerk)
    need_known_window(window)
    many, most = clerk
    return many > window and most >= window


def clerk_breaks(clerk, window):
    """A service and a history of that window for which the clerk's answers are not those wished, or None."""
    if is_enough(clerk, window):
        return None
    many, most = clerk
    # The first ask comes again when its number is next once more, or as soon as its answer is kept no longer.
    back = min(many, most + 1)
    return FIRST_TOLD, ("a",) * back + (back,)


def does_serve(service, clerk, history):
    """Whether a clerk's answers to all items of a history are those wished."""
    need_all(service, clerk, history)
    return by_clerk(service, clerk, history) == by_wish(service, history)
