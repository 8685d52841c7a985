"""The desk: a service that is asked, and asked again, item by item (promise 16)."""

from oftenasked.again import MOST_ITEMS, asked, first_asks
from oftenasked.errors import NoSuch, NothingDone, TooLong
from oftenasked.orders import need_ask
from oftenasked.services import need_service
from oftenasked.stands import walk
from oftenasked.values import is_whole


class Desk:
    """Asks one service and remembers all items, so that the last one can be taken back."""

    def __init__(self, service):
        need_service(service)
        self._service = service
        self._done = []

    def ask(self, ask):
        """Ask the service a first ask and tell its answer."""
        need_ask(self._service, ask)
        return self._take(ask)

    def again(self, j):
        """Ask the service once more what was the j-th last first ask, and tell its answer."""
        if not is_whole(j) or not 1 <= j <= len(first_asks(self._done)):
            raise NoSuch()
        return self._take(j)

    def _take(self, item):
        """Append an item and tell its answer."""
        if len(self._done) >= MOST_ITEMS:
            raise TooLong(MOST_ITEMS)
        self._done.append(item)
        return self.answers()[-1]

    def undo(self):
        """Take back the last item."""
        if not self._done:
            raise NothingDone()
        self._done.pop()

    def history(self):
        """The tuple of all items."""
        return tuple(self._done)

    def answers(self):
        """The text of the answers of all items."""
        return walk(self._service, asked(self._done))[1]

    def stand(self):
        """The number of the stand behind all items."""
        return walk(self._service, asked(self._done))[0]

    def would(self):
        """The text of the answers that the first asks would have got if nothing had come again."""
        return walk(self._service, first_asks(self._done))[1]

    def text(self):
        """The lines of the asks and of the items."""
        items = [str(item) for item in self._done]
        return f"asks {self._service[0]}\n" + " ".join(["history"] + items) + "\n"
