"""The errors of the package: one class for each kind of failure."""


class ServiceError(ValueError):
    """The base class of all errors of the package."""


class BadService(ServiceError):
    """A value that is no service."""


class BadRow(ServiceError):
    """A value that is no row of at most 60 asks of the service."""


class Unlike(ServiceError):
    """Two services whose asks are not the same."""


class BadLot(ServiceError):
    """A value that is no lot of the service."""


class BadWindow(ServiceError):
    """A value that is no window."""


class BadHistory(ServiceError):
    """A value that is no history."""


class NoAsk(ServiceError):
    """A value that is no ask, or an empty lot where an ask is needed."""


class NotBorne(ServiceError):
    """A lot that the service does not bear."""


class Same(ServiceError):
    """The same ask twice where two unlike ones are needed."""


class BadClerk(ServiceError):
    """A value that is no clerk."""


class Shared(ServiceError):
    """Two services that share an ask."""


class TooMany(ServiceError):
    """More than `most` of what is counted."""

    def __init__(self, most):
        self.most = most


class BadLetters(ServiceError):
    """A value that does not give each ask a letter of its own."""


class NotText(ServiceError):
    """A value that is no text."""


class InvalidText(ServiceError):
    """A text that is no program: the sign at `place` cannot stand there."""

    def __init__(self, place):
        self.place = place


class BadAsks(ServiceError):
    """Asks that no service has."""


class Twice(ServiceError):
    """What is told a second time: `name`."""

    def __init__(self, name):
        self.name = name


class BadAnswer(ServiceError):
    """An answer that is not one letter."""


class Lacking(ServiceError):
    """A stand that lacks some ask: `name`."""

    def __init__(self, name):
        self.name = name


class Unknown(ServiceError):
    """The name of no stand: `name`."""

    def __init__(self, name):
        self.name = name


class NoStand(ServiceError):
    """A program without a stand."""


class TooLong(ServiceError):
    """A history that would have more than `most` items."""

    def __init__(self, most):
        self.most = most


class NoSuch(ServiceError):
    """No first ask that could come again."""


class NothingDone(ServiceError):
    """No item that could be taken back."""
