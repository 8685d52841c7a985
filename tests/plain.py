"""Services to test with, and plain searches that the tests hold the program against.

Nothing here uses the program: what it tells is worked out by trying rows and histories.
"""

import itertools
import random

LAMP = ("nt", (((1, "x"), (1, "x")), ((1, "x"), (0, "y"))))
DULL = ("nt", (((0, "x"), (0, "x")),))
COUNT = ("gs", (((0, "a"), (1, "o")), ((1, "b"), (1, "o"))))
TOGGLE = ("t", (((1, "x"),), ((0, "y"),)))


def ring(many):
    """g tells whether the last stand is reached, n does nothing, s steps on, z goes back to the stand 0."""
    rows = []
    for at in range(many):
        told = "y" if at == many - 1 else "x"
        rows.append(((at, told), (at, "o"), ((at + 1) % many, "o"), (0, "o")))
    return ("gnsz", tuple(rows))


def chain(told):
    """A service with one ask that tells the letters of a text, one by one, round and round."""
    return ("a", tuple((((at + 1) % len(told), letter),) for at, letter in enumerate(told)))


def every_service(asks, many, letters):
    """All services with these asks, that many stands and answers of these letters."""
    parts = list(itertools.product(range(many), letters))
    stands = list(itertools.product(parts, repeat=len(asks)))
    for rows in itertools.product(stands, repeat=many):
        yield (asks, rows)


def some_services(seed, count, asks, many, letters):
    """Services that look random, the same ones in each run."""
    source = random.Random(seed)
    for _ in range(count):
        yield (asks, tuple(
            tuple((source.randrange(many), source.choice(letters)) for _ in asks) for _ in range(many)))


def rows_of(asks, longest):
    """All rows of at most that many asks, by length, then as Python orders texts."""
    for length in range(longest + 1):
        for signs in itertools.product(asks, repeat=length):
            yield "".join(signs)


def follow(service, at, row):
    """The stand behind the row from a stand on, and the answers."""
    asks, rows = service
    told = ""
    for ask in row:
        at, answer = rows[at][asks.index(ask)]
        told += answer
    return at, told


def first_unlike(one, at, other, to):
    """The least row that tells a stand of one service from a stand of another one, None: tried pair by pair."""
    layer = {(at, to): ""}
    seen = set(layer)
    while layer:
        fresh = {}
        for (here, there), row in sorted(layer.items(), key=lambda pair: pair[1]):
            for ask in one[0]:
                after, answer = follow(one, here, ask)
                later, reply = follow(other, there, ask)
                if answer != reply:
                    return row + ask
                if (after, later) not in seen:
                    seen.add((after, later))
                    fresh[(after, later)] = row + ask
        layer = fresh
    return None


def come_to_by_rows(service):
    """The stands behind all rows that are long enough to lead to each stand that any row leads to."""
    return {follow(service, 0, row)[0] for row in rows_of(service[0], len(service[1]) - 1)}


def histories(asks, lot, window, length, new=""):
    """All histories of exactly that many items, by the words of the promise."""
    if length == 0:
        yield ()
        return
    for ask in asks:
        for rest in histories(asks, lot, window, length - 1, new + ask):
            yield (ask,) + rest
    most = len(new) if window is None else min(len(new), window)
    for back in range(1, most + 1):
        if new[-back] in lot:
            for rest in histories(asks, lot, window, length - 1, new):
                yield (back,) + rest


def shows_unlike(service, history):
    """Whether some first ask of the history is answered unlike in the row of the first asks alone."""
    at = alone = 0
    new = ""
    for item in history:
        if isinstance(item, int):
            at, _ = follow(service, at, new[-item])
            continue
        new += item
        at, answer = follow(service, at, item)
        alone, wished = follow(service, alone, item)
        if answer != wished:
            return True
    return False


def bears_by_histories(service, lot, window, length):
    """Whether no history of that many items shows an unlike answer."""
    return not any(shows_unlike(service, history) for history in histories(service[0], lot, window, length))


def bears_by_search(service, lot, window):
    """The same for histories of any length: all stands with and without what came again, and what may come again."""
    asks, _ = service
    todo = [(0, 0, "")]
    seen = set(todo)
    while todo:
        at, alone, kept = todo.pop()
        nexts = [(follow(service, at, ask)[0], alone, kept) for ask in kept if ask in lot]
        for ask in asks:
            after, answer = follow(service, at, ask)
            later, wished = follow(service, alone, ask)
            if answer != wished:
                return False
            if window is None:
                nexts.append((after, later, "".join(sorted(set(kept + ask)))))
            else:
                nexts.append((after, later, (kept + ask)[-window:] if window else ""))
        for state in nexts:
            if state not in seen:
                seen.add(state)
                todo.append(state)
    return True


def bears_by_ages(service, lot, window):
    """For large services: each stand with each number of asks since the ask that may come again, pair by pair."""
    asks, rows = service
    for ask in lot:
        todo = [(0, None)]
        seen = set(todo)
        while todo:
            at, age = todo.pop()
            if age is not None and (window is None or age <= window):
                if first_unlike(service, at, service, follow(service, at, ask)[0]) is not None:
                    return False
            for now in asks:
                older = 1 if now == ask else None if age is None else min(age + 1, len(rows) + 41)
                # For ever an ask stays one that may come again, however old it is.
                older = 1 if window is None and older is not None else older
                state = (follow(service, at, now)[0], older)
                if state not in seen:
                    seen.add(state)
                    todo.append(state)
    return True


def left_out(service, lot):
    """The service with just the asks of the lot."""
    asks, rows = service
    return (lot, tuple(tuple(pair for ask, pair in zip(asks, parts) if ask in lot) for parts in rows))


def greatest_by_search(service, window):
    """The greatest part, all texts of asks being tried."""
    for size in range(len(service[0]), 0, -1):
        for signs in itertools.combinations(service[0], size):
            lot = "".join(signs)
            if bears_by_search(left_out(service, lot), lot, window):
                return lot
    return ""


def wheel(many):
    """a goes round and tells y at the last stand but one; b leads back from the last stand and does nothing else."""
    return ("ab", tuple((((at + 1) % many, "y" if at == many - 2 else "x"), (0 if at == many - 1 else at, "o"))
                        for at in range(many)))


def late_wheel(many):
    """A wheel with that many stands that begins at one more stand, ahead of it; b does nothing there."""
    asks, rows = wheel(many)
    moved = tuple(tuple((after + 1, answer) for after, answer in parts) for parts in rows)
    return (asks, (((1, "x"), (0, "o")),) + moved)


def once_told(many):
    """a goes on to the last stand; b does nothing, but tells y there."""
    return ("ab", tuple(((min(at + 1, many - 1), "x"), (at, "y" if at == many - 1 else "x")) for at in range(many)))


def lots_of(asks):
    """All lots of these asks, the empty one too."""
    return ["".join(ask for at, ask in enumerate(asks) if sign >> at & 1) for sign in range(2 ** len(asks))]


def one_integer(asks, lot, window, items):
    """All histories of that many items with one integer: by text, by the integer's place, by the integer."""
    for signs in itertools.product(asks, repeat=items - 1):
        for place in range(1, items):
            for back in range(1, place + 1):
                if signs[place - back] in lot and (window is None or back <= window):
                    yield signs[:place] + (back,) + signs[place:]


def again_unlike(service, history):
    """Whether some item that comes again is answered unlike its first ask, all items being asked of the service."""
    at = 0
    first_told = []
    for item in history:
        if isinstance(item, str):
            at, answer = follow(service, at, item)
            first_told.append((item, answer))
        else:
            ask, told = first_told[-item]
            at, answer = follow(service, at, ask)
            if answer != told:
                return True
    return False


def broken_by_search(service, lot, window):
    """The first history with one integer that shows an unlike answer: all are tried in their order."""
    if bears_by_search(service, lot, window):
        return None
    for items in itertools.count(2):
        for history in one_integer(service[0], lot, window, items):
            if shows_unlike(service, history):
                return history


def second_by_search(service, lot, window):
    """The first history that ends with its one integer, answered unlike: all are tried in their order."""
    if answers_again_by_search(service, lot, window):
        return None
    for items in itertools.count(2):
        for history in one_integer(service[0], lot, window, items):
            if isinstance(history[-1], int) and again_unlike(service, history):
                return history


def answers_again_by_search(service, lot, window):
    """For a lot that is borne, histories of any length: each stand with what may come again and how it was answered."""
    asks, _ = service
    todo = [(0, ())]
    seen = set(todo)
    while todo:
        at, kept = todo.pop()
        nexts = []
        for ask, told in kept:
            if ask in lot:
                after, answer = follow(service, at, ask)
                if answer != told:
                    return False
                nexts.append((after, kept))
        for ask in asks:
            after, answer = follow(service, at, ask)
            pair = ((ask, answer),)
            if window is None:
                nexts.append((after, tuple(sorted(set(kept + pair)))))
            else:
                nexts.append((after, (kept + pair)[-window:] if window else ()))
        for state in nexts:
            if state not in seen:
                seen.add(state)
                todo.append(state)
    return True


def may_come(service, ask, window, longest):
    """The stands that rows of at most that length lead to whose last asks, as many as the window, have the ask."""
    found = set()
    for row in rows_of(service[0], longest):
        last = row if window is None else row[max(0, len(row) - window):]
        if ask in last:
            found.add(follow(service, 0, row)[0])
    return found


def swaps_by_rows(service, one, other, longest):
    """Whether two neighbours may change places in each row of at most that length."""
    for row in rows_of(service[0], longest):
        told = follow(service, 0, row)[1]
        for at in range(len(row) - 1):
            if row[at:at + 2] in (one + other, other + one):
                turned = follow(service, 0, row[:at] + row[at + 1] + row[at] + row[at + 2:])[1]
                if turned[:at] + turned[at + 1] + turned[at] + turned[at + 2:] != told:
                    return False
    return True


def led_to(row, free):
    """All rows that a row is led to by changes of neighbours, one after another; free are those that may change."""
    found = {row}
    todo = [row]
    while todo:
        now = todo.pop()
        for at in range(len(now) - 1):
            if "".join(sorted(now[at:at + 2])) in free:
                turned = now[:at] + now[at + 1] + now[at] + now[at + 2:]
                if turned not in found:
                    found.add(turned)
                    todo.append(turned)
    return found


def by_plain_clerk(service, clerk, history):
    """The answers of a clerk, its words followed one by one: all that it kept stands in one list."""
    many, most = clerk
    at, following, kept, told, sent = 0, 0, [], [], []
    for item in history:
        if isinstance(item, str):
            sent.append((item, sent[-1][1] + 1 if sent else 0))
            if sent[-1][1] == many:
                sent[-1] = (item, 0)
            ask, number = sent[-1]
        else:
            ask, number = sent[len(sent) - item]
        answer = ""
        if number == following:
            at, answer = follow(service, at, ask)
            kept.insert(0, (number, answer))
            following = 0 if following == many - 1 else following + 1
        else:
            for its, old in reversed(kept[:most]):
                answer = old if its == number else answer
        told.append(answer)
    return tuple(told)


def by_plain_wish(service, history):
    """The answers that are wished: those of the first asks alone, and the same ones again."""
    row = "".join(item for item in history if isinstance(item, str))
    alone = follow(service, 0, row)[1]
    told = []
    new = ""
    for item in history:
        if isinstance(item, str):
            new += alone[len(new)]
            told.append(new[-1])
        else:
            told.append(new[-item])
    return tuple(told)
