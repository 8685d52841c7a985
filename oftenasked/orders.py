"""Other orders: neighbours that may change places, rows led to one another so (promise 10)."""

from oftenasked.errors import NoAsk, Same
from oftenasked.services import need_row, need_service
from oftenasked.stands import come_to, likes, walk
from oftenasked.values import is_letter


def need_ask(service, value):
    """Raise NoAsk for any value that is no ask of the service."""
    if not is_letter(value) or value not in service[0]:
        raise NoAsk()


def is_free(service, pair):
    """Whether two unlike asks, a text of two, may change places wherever they are neighbours."""
    marks = likes(service[1])
    for at in come_to(service[1]):
        after, told = walk(service, pair, at)
        later, turned = walk(service, pair[::-1], at)
        if marks[after] != marks[later] or told != turned[::-1]:
            return False
    return True


def pairs_of(asks):
    """All texts of two unlike asks, ascending letters, in their order."""
    return [one + other for one in asks for other in asks if one < other]


def may_swap(service, one, other):
    """Whether two unlike asks may change places wherever they are neighbours, each with its own answer."""
    need_service(service)
    need_ask(service, one)
    need_ask(service, other)
    if one == other:
        raise Same()
    return is_free(service, one + other)


def swaps(service):
    """The ascending tuple of the texts of two asks that may change places."""
    need_service(service)
    return tuple([pair for pair in pairs_of(service[0]) if is_free(service, pair)])


def only(row, asks):
    """The row with just these asks."""
    return "".join([ask for ask in row if ask in asks])


def can_lead(service, row, other):
    """Whether a row is led to another one by changes of neighbours that may change places."""
    need_service(service)
    need_row(service, row)
    need_row(service, other)
    fixed = [pair for pair in pairs_of(service[0]) if not is_free(service, pair)]
    return all([only(row, asks) == only(other, asks) for asks in list(service[0]) + fixed])
