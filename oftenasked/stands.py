"""The stands of services, their ways and their likeness.

The functions here are passed services and rows of stands that were checked before.
"""


def walk(service, row):
    """The stand behind a row of any length, and the text of its answers."""
    asks, rows = service
    at = 0
    told = []
    for ask in row:
        at, answer = rows[at][asks.index(ask)]
        told.append(answer)
    return at, "".join(told)


def depths(rows, begins):
    """For each stand that rows of any asks lead to from some begin: the length of the shortest."""
    far = {at: 0 for at in begins}
    edge = sorted(far)
    depth = 0
    while edge:
        depth += 1
        fresh = {after: depth for at in edge for after, _ in rows[at] if after not in far}
        far.update(fresh)
        edge = sorted(fresh)
    return far


def come_to(rows):
    """The stands that some row leads to, ascending."""
    return sorted(depths(rows, [0]))


def numbered(signs):
    """For each sign a number: the same for the same signs only, as they first stand, from 0 on."""
    numbers = {}
    for sign in signs:
        numbers.setdefault(sign, len(numbers))
    return [numbers[sign] for sign in signs]


def likes(rows):
    """For each stand the number of its like: alike stands, and only these, have the same number."""
    marks = numbered([tuple([answer for _, answer in parts]) for parts in rows])
    many = 0
    # Each round tells apart what one more ask tells apart; a round that tells nothing apart is the last.
    while many < max(marks):
        many = max(marks)
        ways = [tuple([marks[after] for after, _ in parts]) for parts in rows]
        marks = numbered(list(zip(marks, ways)))
    return marks


def merged(service):
    """The least service that answers every row alike, its stands numbered as they are come to."""
    asks, rows = service
    marks = likes(rows)
    numbers = {marks[0]: 0}
    chosen = [0]
    at = 0
    while at < len(chosen):
        parts = rows[chosen[at]]
        for after, _ in parts:
            if marks[after] not in numbers:
                numbers[marks[after]] = len(chosen)
                chosen.append(after)
        at += 1
    return asks, tuple([renumbered(rows[old], marks, numbers) for old in chosen])


def renumbered(parts, marks, numbers):
    """A stand whose next stands are told by the numbers of their likes."""
    return tuple([(numbers[marks[after]], answer) for after, answer in parts])


def just(service, lot):
    """The service with just the asks of the lot, the others left out."""
    asks, rows = service
    places = [asks.index(ask) for ask in lot]
    return lot, tuple([tuple([parts[place] for place in places]) for parts in rows])


def parting_row(one, other):
    """The least row that two services with the same asks answer unlike, None if there is none."""
    # Pairs of stands are queued by their least rows, so the first row that tells unlike answers is least.
    queue = [(0, 0, "")]
    seen = {(0, 0): True}
    at = 0
    while at < len(queue):
        here, there, row = queue[at]
        at += 1
        for ask, (after, answer), (later, reply) in zip(one[0], one[1][here], other[1][there]):
            if answer != reply:
                return row + ask
            if (after, later) not in seen:
                seen[(after, later)] = True
                queue.append((after, later, row + ask))
    return None
