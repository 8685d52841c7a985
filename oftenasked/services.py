"""Services: what they answer, where their rows lead, which are alike (promises 1 to 3)."""

from oftenasked.errors import BadRow, BadService, Unlike
from oftenasked.stands import come_to, merged, parting_row, walk
from oftenasked.values import is_ascending, is_letter, is_pair, is_whole

MOST_ASKS = 4
MOST_STANDS = 40
MOST_IN_ROW = 60


def is_service(value):
    """Whether any value is a service."""
    if not is_pair(value):
        return False
    asks, rows = value
    if not is_ascending(asks) or not 1 <= len(asks) <= MOST_ASKS:
        return False
    if not isinstance(rows, tuple) or not 1 <= len(rows) <= MOST_STANDS:
        return False
    return all([is_stand(parts, len(asks), len(rows)) for parts in rows])


def is_stand(value, width, many):
    """Whether any value is a stand with that many asks of a service with that many stands."""
    if not isinstance(value, tuple) or len(value) != width:
        return False
    return all([is_part(part, many) for part in value])


def is_part(value, many):
    """Whether any value is a pair (next, answer) of a service with that many stands."""
    if not is_pair(value):
        return False
    after, answer = value
    return is_whole(after) and 0 <= after < many and is_letter(answer)


def need_service(value):
    """Raise BadService for any value that is no service."""
    if not is_service(value):
        raise BadService()


def need_row(service, value):
    """Raise BadRow for any value that is no row of the service, short enough to be passed."""
    if not isinstance(value, str) or len(value) > MOST_IN_ROW:
        raise BadRow()
    if not all([sign in service[0] for sign in value]):
        raise BadRow()


def need_same_asks(one, other):
    """Raise BadService for values that are no services, Unlike for services whose asks differ."""
    need_service(one)
    need_service(other)
    if one[0] != other[0]:
        raise Unlike()


def answers(service, row):
    """The text of the answers that the row gets from the stand 0 on."""
    need_service(service)
    need_row(service, row)
    return walk(service, row)[1]


def stand(service, row):
    """The number of the stand behind the row."""
    need_service(service)
    need_row(service, row)
    return walk(service, row)[0]


def stands_come_to(service):
    """The ascending tuple of the stands that some row leads to."""
    need_service(service)
    return tuple(come_to(service[1]))


def least(service):
    """The one service that answers every row alike with fewest stands, numbered as they are come to."""
    need_service(service)
    return merged(service)


def are_alike(one, other):
    """Whether two services with the same asks answer every row alike."""
    need_same_asks(one, other)
    return merged(one) == merged(other)


def parting(one, other):
    """The least row that two services with the same asks answer unlike, None if there is none."""
    need_same_asks(one, other)
    return parting_row(one, other)
