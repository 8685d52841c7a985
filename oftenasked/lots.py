"""Services beside one another, under other letters, and what asks can be answered (promises 13 and 14)."""

from oftenasked.again import need_lot, need_window
from oftenasked.errors import BadLetters, Shared, TooMany
from oftenasked.services import MOST_ASKS, MOST_STANDS, need_row, need_same_asks, need_service
from oftenasked.stands import depths, just
from oftenasked.values import is_ascending

MOST_PAIRS = 2000


def need_apart(one, other):
    """Raise Shared for services that share an ask, TooMany for those with too many asks in all."""
    if any([ask in other[0] for ask in one[0]]):
        raise Shared()
    if len(one[0]) + len(other[0]) > MOST_ASKS:
        raise TooMany(MOST_ASKS)


def step_beside(services, pair, ask):
    """The pair of stands that an ask of one of two services leads to from a pair of stands, and the answer."""
    one, other = services
    here, there = pair
    if ask in one[0]:
        after, answer = one[1][here][one[0].index(ask)]
        return (after, there), answer
    after, answer = other[1][there][other[0].index(ask)]
    return (here, after), answer


def beside(one, other):
    """The service with the asks of both, each asked of its own, its stands numbered as they are come to."""
    need_service(one)
    need_service(other)
    need_apart(one, other)
    asks = "".join(sorted(one[0] + other[0]))
    numbers = {(0, 0): 0}
    order = [(0, 0)]
    rows = []
    while len(rows) < len(order):
        steps = [step_beside((one, other), order[len(rows)], ask) for ask in asks]
        for pair, _ in steps:
            if pair not in numbers:
                numbers[pair] = len(order)
                order.append(pair)
        if len(order) > MOST_STANDS:
            raise TooMany(MOST_STANDS)
        rows.append(tuple([(numbers[pair], answer) for pair, answer in steps]))
    return asks, tuple(rows)


def need_letters(service, value):
    """Raise BadLetters for any value that is no text of unlike small letters, one for each ask."""
    if not isinstance(value, str) or len(value) != len(service[0]):
        raise BadLetters()
    if not is_ascending("".join(sorted(value))):
        raise BadLetters()


def renamed(service, letters):
    """The service whose asks are called by these letters, its asks ascending again."""
    need_service(service)
    need_letters(service, letters)
    places = [letters.index(letter) for letter in sorted(letters)]
    return "".join(sorted(letters)), tuple([tuple([parts[place] for place in places]) for parts in service[1]])


def spread(service, stands, lot):
    """The stands that asks of the lot, coming again any number of times, lead to from some stands, ascending."""
    return sorted(depths(just(service, lot)[1], stands))


def steps_from(service, stands, ask):
    """The steps (next, answer) that an ask makes from some stands."""
    place = service[0].index(ask)
    return [service[1][at][place] for at in stands]


def replies(steps):
    """The ascending text of all answers of some steps."""
    return "".join(sorted(set([answer for _, answer in steps])))


def may_come(lot, window, row):
    """The text of the asks of a lot that may come again behind a row."""
    last = row if window is None else row[max(0, len(row) - window):]
    return "".join([ask for ask in lot if ask in last])


def can_answer(service, lot, window, row):
    """For each first ask of the row the ascending text of all answers that it can get, whatever comes again."""
    need_service(service)
    need_lot(service, lot)
    need_window(window)
    need_row(service, row)
    stands = [0]
    told = []
    for place, ask in enumerate(row):
        steps = steps_from(service, spread(service, stands, may_come(lot, window, row[:place])), ask)
        told.append(replies(steps))
        stands = [after for after, _ in steps]
    return tuple(told)


def onward(service, stands, ask, again):
    """The stands that an ask leads to from some stands, and those that asks coming again lead to from there."""
    return tuple(spread(service, [after for after, _ in steps_from(service, stands, ask)], again))


def pairs_that_come(one, other, lot):
    """Each pair of lots of stands that some row leads to, with the asks of the row, and the least such row.

    They stand in the order of these rows. All of them are counted, behind rows that get unlike answers too.
    """
    asks = one[0]
    rows_to = {((0,), (0,), ""): ""}
    order = list(rows_to)
    at = 0
    while at < len(order):
        these, those, asked = order[at]
        for ask in asks:
            now = "".join([sign for sign in asks if sign in asked + ask])
            again = may_come(lot, None, now)
            pair = (onward(one, these, ask, again), onward(other, those, ask, again), now)
            if pair not in rows_to:
                rows_to[pair] = rows_to[order[at]] + ask
                order.append(pair)
        if len(order) > MOST_PAIRS:
            raise TooMany(MOST_PAIRS)
        at += 1
    return rows_to


def row_again(one, other, lot):
    """The least row whose last ask can get unlike answers from two services, None if there is none."""
    need_same_asks(one, other)
    need_lot(one, lot)
    for (these, those, _), row in pairs_that_come(one, other, lot).items():
        for ask in one[0]:
            if replies(steps_from(one, these, ask)) != replies(steps_from(other, those, ask)):
                return row + ask
    return None


def are_alike_again(one, other, lot):
    """Whether, for ever, each first ask of every row can get the same answers from both services."""
    return row_again(one, other, lot) is None
