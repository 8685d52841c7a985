"""Asks that come again: histories, what a service bears, its parts (promises 4, 5 and 7)."""

from oftenasked.errors import BadHistory, BadLot, BadWindow, NoAsk
from oftenasked.services import need_service
from oftenasked.stands import come_to, depths, just, likes, merged, walk
from oftenasked.values import is_ascending, is_letter, is_whole

MOST_WINDOW = 40
MOST_ITEMS = 60


def need_lot(service, value):
    """Raise BadLot for any value that is no lot of the service."""
    if not is_ascending(value) or not all([ask in service[0] for ask in value]):
        raise BadLot()


def need_window(value):
    """Raise BadWindow for any value that is no window."""
    if value is None:
        return
    if not is_whole(value) or not 0 <= value <= MOST_WINDOW:
        raise BadWindow()


def at_most(low, high):
    """Whether low is at most high, each of them an integer or None, for ever, which is above all integers."""
    return high is None or (low is not None and low <= high)


def is_tale(value):
    """Whether any value has the form of a history, whichever the service, the lot and the window."""
    if not isinstance(value, tuple) or len(value) > MOST_ITEMS:
        return False
    ahead = 0
    for item in value:
        if is_letter(item):
            ahead += 1
        elif not is_whole(item) or not 1 <= item <= ahead:
            return False
    return True


def first_asks(tale):
    """The text of the first asks of a tale."""
    return "".join([item for item in tale if isinstance(item, str)])


def meant(tale):
    """For each item of a tale the place of its ask among the first asks, for one that comes again too."""
    places = []
    ahead = 0
    for item in tale:
        if isinstance(item, str):
            places.append(ahead)
            ahead += 1
        else:
            places.append(ahead - item)
    return places


def asked(tale):
    """The text of the asks of all items of a tale, those that come again too."""
    new = first_asks(tale)
    return "".join([new[place] for place in meant(tale)])


def is_told(service, lot, window, value):
    """Whether any value is a history of a service, a lot and a window that were checked before."""
    if not is_tale(value) or not all([ask in service[0] for ask in first_asks(value)]):
        return False
    repeats = [(item, ask) for item, ask in zip(value, asked(value)) if is_whole(item)]
    return all([at_most(item, window) and ask in lot for item, ask in repeats])


def is_history(service, lot, window, value):
    """Whether any value is a history of that lot and window."""
    need_service(service)
    need_lot(service, lot)
    need_window(window)
    return is_told(service, lot, window, value)


def need_history(service, value):
    """Raise BadHistory for any value that is no history with all asks of the service in the lot, for ever."""
    if not is_told(service, service[0], None, value):
        raise BadHistory()


def heard(service, history):
    """The text of the answers of all items of a history."""
    need_service(service)
    need_history(service, history)
    return walk(service, asked(history))[1]


def firsts(history):
    """The text of the first asks of a history."""
    if not is_tale(history):
        raise BadHistory()
    return first_asks(history)


def behind(service, ask):
    """For each stand that some row with the ask leads to: how many asks at least come after the ask."""
    asks, rows = service
    place = asks.index(ask)
    return depths(rows, [rows[at][place][0] for at in come_to(rows)])


def limits(service):
    """For each ask the greatest window that is borne if it alone may come again, None for ever."""
    asks, rows = service
    marks = likes(rows)
    found = {}
    for place, ask in enumerate(asks):
        far = behind(service, ask)
        # A stand behind the ask and d more asks is met by windows from d + 1 on, so d is still borne.
        found[ask] = min([far[at] for at in far if marks[rows[at][place][0]] != marks[at]], default=None)
    return found


def bearing(service, window):
    """The text of the asks that are borne, each alone, in a window."""
    found = limits(service)
    return "".join([ask for ask in service[0] if at_most(window, found[ask])])


def bears(service, lot, window):
    """Whether each first ask is answered in every history as in the row of the first asks alone."""
    need_service(service)
    need_lot(service, lot)
    need_window(window)
    safe = bearing(service, window)
    return all([ask in safe for ask in lot])


def window_of(service, lot):
    """The greatest window in which the service bears the lot, None if it bears it for ever."""
    need_service(service)
    need_lot(service, lot)
    found = limits(service)
    return min([found[ask] for ask in lot if found[ask] is not None], default=None)


def borne(service, window):
    """The text of the asks that the service bears in the window."""
    need_service(service)
    need_window(window)
    return bearing(service, window)


def harmful(service, window):
    """The text of the asks that the service does not bear in the window."""
    need_service(service)
    need_window(window)
    safe = bearing(service, window)
    return "".join([ask for ask in service[0] if ask not in safe])


def lots_by_size(asks):
    """All texts of asks that are not empty, those with most asks first, of these the least first."""
    lots = [""]
    for ask in asks:
        lots = lots + [lot + ask for lot in lots]
    return sorted(lots[1:], key=lambda lot: (-len(lot), lot))


def greatest_part(service, window):
    """A text of most asks, of these the least, such that the service with just these bears all of them."""
    need_service(service)
    need_window(window)
    for lot in lots_by_size(service[0]):
        if bearing(just(service, lot), window) == lot:
            return lot
    return ""


def part(service, lot):
    """The least service with just the asks of a lot that is not empty."""
    need_service(service)
    need_lot(service, lot)
    if lot == "":
        raise NoAsk()
    return merged(just(service, lot))
