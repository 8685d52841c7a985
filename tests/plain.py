"""Services to test with, and plain searches that the tests hold the program against.

Nothing here uses the program: what it tells is worked out by trying rows and histories.
"""

import itertools
import random

LAMP = ("nt", (((1, "x"), (1, "x")), ((1, "x"), (0, "y"))))
DULL = ("nt", (((0, "x"), (0, "x")),))
COUNT = ("gs", (((0, "a"), (1, "o")), ((1, "b"), (1, "o"))))
TOGGLE = ("t", (((1, "x"),), ((0, "y"),)))


def ring(many):
    """g tells whether the last stand is reached, n does nothing, s steps on, z goes back to the stand 0."""
    rows = []
    for at in range(many):
        told = "y" if at == many - 1 else "x"
        rows.append(((at, told), (at, "o"), ((at + 1) % many, "o"), (0, "o")))
    return ("gnsz", tuple(rows))


def chain(told):
    """A service with one ask that tells the letters of a text, one by one, round and round."""
    return ("a", tuple((((at + 1) % len(told), letter),) for at, letter in enumerate(told)))


def every_service(asks, many, letters):
    """All services with these asks, that many stands and answers of these letters."""
    parts = list(itertools.product(range(many), letters))
    stands = list(itertools.product(parts, repeat=len(asks)))
    for rows in itertools.product(stands, repeat=many):
        yield (asks, rows)


def some_services(seed, count, asks, many, letters):
    """Services that look random, the same ones in each run."""
    source = random.Random(seed)
    for _ in range(count):
        yield (asks, tuple(
            tuple((source.randrange(many), source.choice(letters)) for _ in asks) for _ in range(many)))


def rows_of(asks, longest):
    """All rows of at most that many asks, by length, then as Python orders texts."""
    for length in range(longest + 1):
        for signs in itertools.product(asks, repeat=length):
            yield "".join(signs)


def follow(service, at, row):
    """The stand behind the row from a stand on, and the answers."""
    asks, rows = service
    told = ""
    for ask in row:
        at, answer = rows[at][asks.index(ask)]
        told += answer
    return at, told


def first_unlike(one, at, other, to):
    """The least row that tells a stand of one service from a stand of another one, None: tried pair by pair."""
    layer = {(at, to): ""}
    seen = set(layer)
    while layer:
        fresh = {}
        for (here, there), row in sorted(layer.items(), key=lambda pair: pair[1]):
            for ask in one[0]:
                after, answer = follow(one, here, ask)
                later, reply = follow(other, there, ask)
                if answer != reply:
                    return row + ask
                if (after, later) not in seen:
                    seen.add((after, later))
                    fresh[(after, later)] = row + ask
        layer = fresh
    return None


def come_to_by_rows(service):
    """The stands behind all rows that are long enough to lead to each stand that any row leads to."""
    return {follow(service, 0, row)[0] for row in rows_of(service[0], len(service[1]) - 1)}


def histories(asks, lot, window, length, new=""):
    """All histories of exactly that many items, by the words of the promise."""
    if length == 0:
        yield ()
        return
    for ask in asks:
        for rest in histories(asks, lot, window, length - 1, new + ask):
            yield (ask,) + rest
    most = len(new) if window is None else min(len(new), window)
    for back in range(1, most + 1):
        if new[-back] in lot:
            for rest in histories(asks, lot, window, length - 1, new):
                yield (back,) + rest


def shows_unlike(service, history):
    """Whether some first ask of the history is answered unlike in the row of the first asks alone."""
    at = alone = 0
    new = ""
    for item in history:
        if isinstance(item, int):
            at, _ = follow(service, at, new[-item])
            continue
        new += item
        at, answer = follow(service, at, item)
        alone, wished = follow(service, alone, item)
        if answer != wished:
            return True
    return False


def bears_by_histories(service, lot, window, length):
    """Whether no history of that many items shows an unlike answer."""
    return not any(shows_unlike(service, history) for history in histories(service[0], lot, window, length))


def bears_by_search(service, lot, window):
    """The same for histories of any length: all stands with and without what came again, and what may come again."""
    asks, _ = service
    todo = [(0, 0, "")]
    seen = set(todo)
    while todo:
        at, alone, kept = todo.pop()
        nexts = [(follow(service, at, ask)[0], alone, kept) for ask in kept if ask in lot]
        for ask in asks:
            after, answer = follow(service, at, ask)
            later, wished = follow(service, alone, ask)
            if answer != wished:
                return False
            if window is None:
                nexts.append((after, later, "".join(sorted(set(kept + ask)))))
            else:
                nexts.append((after, later, (kept + ask)[-window:] if window else ""))
        for state in nexts:
            if state not in seen:
                seen.add(state)
                todo.append(state)
    return True


def bears_by_ages(service, lot, window):
    """For large services: each stand with each number of asks since the ask that may come again, pair by pair."""
    asks, rows = service
    for ask in lot:
        todo = [(0, None)]
        seen = set(todo)
        while todo:
            at, age = todo.pop()
            if age is not None and (window is None or age <= window):
                if first_unlike(service, at, service, follow(service, at, ask)[0]) is not None:
                    return False
            for now in asks:
                older = 1 if now == ask else None if age is None else min(age + 1, len(rows) + 41)
                # For ever an ask stays one that may come again, however old it is.
                older = 1 if window is None and older is not None else older
                state = (follow(service, at, now)[0], older)
                if state not in seen:
                    seen.add(state)
                    todo.append(state)
    return True


def left_out(service, lot):
    """The service with just the asks of the lot."""
    asks, rows = service
    return (lot, tuple(tuple(pair for ask, pair in zip(asks, parts) if ask in lot) for parts in rows))


def greatest_by_search(service, window):
    """The greatest part, all texts of asks being tried."""
    for size in range(len(service[0]), 0, -1):
        for signs in itertools.combinations(service[0], size):
            lot = "".join(signs)
            if bears_by_search(left_out(service, lot), lot, window):
                return lot
    return ""
