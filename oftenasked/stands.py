"""The stands of services, their ways and their likeness.

The functions here are passed services and rows of stands that were checked before.
"""


def walk(service, row, begin=0):
    """The stand behind a row of any length from a begin on, and the text of its answers."""
    asks, rows = service
    at = begin
    told = []
    for ask in row:
        at, answer = rows[at][asks.index(ask)]
        told.append(answer)
    return at, "".join(told)


def depths(rows, begins):
    """For each stand that rows of any asks lead to from some begin: the length of the shortest."""
    far = {at: 0 for at in begins}
    edge = sorted(far)
    depth = 0
    while edge:
        depth += 1
        fresh = {after: depth for at in edge for after, _ in rows[at] if after not in far}
        far.update(fresh)
        edge = sorted(fresh)
    return far


def come_to(rows):
    """The stands that some row leads to, ascending."""
    return sorted(depths(rows, [0]))


def walks(service, begin):
    """For each stand that rows from a begin lead to: the least of these rows."""
    asks, rows = service
    least_rows = {begin: ""}
    order = [begin]
    at = 0
    # Stands are queued by their least rows, so the first row that leads to a stand is its least.
    while at < len(order):
        here = order[at]
        at += 1
        for ask, (after, _) in zip(asks, rows[here]):
            if after not in least_rows:
                least_rows[after] = least_rows[here] + ask
                order.append(after)
    return least_rows


def numbered(signs):
    """For each sign a number: the same for the same signs only, as they first stand, from 0 on."""
    numbers = {}
    for sign in signs:
        numbers.setdefault(sign, len(numbers))
    return [numbers[sign] for sign in signs]


def rounds(rows):
    """For one ask, two, .., as many as tell all unlike stands apart: numbers, the same for stands alike so far."""
    marks = numbered([tuple([answer for _, answer in parts]) for parts in rows])
    found = [marks]
    many = 0
    # Each round tells apart what one more ask tells apart; a round that tells nothing apart is the last.
    while many < max(marks):
        many = max(marks)
        ways = [tuple([marks[after] for after, _ in parts]) for parts in rows]
        marks = numbered(list(zip(marks, ways)))
        found.append(marks)
    return found


def likes(rows):
    """For each stand the number of its like: alike stands, and only these, have the same number."""
    return rounds(rows)[-1]


def telling(service, told, here, there):
    """The least row that two unlike stands answer unlike; told are the rounds of the service's stands."""
    asks, rows = service
    left = [marks[here] != marks[there] for marks in told].index(True)
    row = ""
    while left > 0:
        left -= 1
        nexts = [(after, later) for (after, _), (later, _) in zip(rows[here], rows[there])]
        place = [told[left][after] != told[left][later] for after, later in nexts].index(True)
        row += asks[place]
        here, there = nexts[place]
    replies = [(answer, reply) for (_, answer), (_, reply) in zip(rows[here], rows[there])]
    return row + asks[[answer != reply for answer, reply in replies].index(True)]


def met(rows, marks):
    """Of alike stands the one that is come to first, in that order, and for their marks the numbers in it."""
    chosen = [0]
    numbers = {marks[0]: 0}
    at = 0
    while at < len(chosen):
        parts = rows[chosen[at]]
        for after, _ in parts:
            if marks[after] not in numbers:
                numbers[marks[after]] = len(chosen)
                chosen.append(after)
        at += 1
    return chosen, numbers


def merged(service):
    """The least service that answers every row alike, its stands numbered as they are come to."""
    asks, rows = service
    marks = likes(rows)
    chosen, numbers = met(rows, marks)
    return asks, tuple([renumbered(rows[old], marks, numbers) for old in chosen])


def classes_of(rows):
    """For each stand the number of its like in the least service, None for one that no row leads to."""
    marks = likes(rows)
    _, numbers = met(rows, marks)
    reached = come_to(rows)
    return tuple([numbers[marks[at]] if at in reached else None for at in range(len(rows))])


def renumbered(parts, marks, numbers):
    """A stand whose next stands are told by the numbers of their likes."""
    return tuple([(numbers[marks[after]], answer) for after, answer in parts])


def just(service, lot):
    """The service with just the asks of the lot, the others left out."""
    asks, rows = service
    places = [asks.index(ask) for ask in lot]
    return lot, tuple([tuple([parts[place] for place in places]) for parts in rows])


def parting_row(one, other):
    """The least row that two services with the same asks answer unlike, None if there is none."""
    # Pairs of stands are queued by their least rows, so the first row that tells unlike answers is least.
    queue = [(0, 0, "")]
    seen = {(0, 0): True}
    at = 0
    while at < len(queue):
        here, there, row = queue[at]
        at += 1
        for ask, (after, answer), (later, reply) in zip(one[0], one[1][here], other[1][there]):
            if answer != reply:
                return row + ask
            if (after, later) not in seen:
                seen[(after, later)] = True
                queue.append((after, later, row + ask))
    return None
