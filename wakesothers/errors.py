"""The errors of the package: each keeps its only argument as `value`."""


class WakeError(ValueError):
    """What all errors of the package derive from."""

    def __init__(self, value):
        self.value = value


class BadDevices(WakeError):
    """A value is no tuple of devices."""


class BadBundles(WakeError):
    """A value is no tuple of bundles of the devices."""


class BadLot(WakeError):
    """A value is no lot of the devices."""


class OtherDevices(WakeError):
    """A value has other devices, or has them in another sequence."""


class BadDevice(WakeError):
    """A value is none of the devices."""


class BadRests(WakeError):
    """A value is no tuple of lots that stay."""


class BadBook(WakeError):
    """A line of a book's text cannot stand where it stands."""


class BadFact(WakeError):
    """A value is no fact of the devices."""


class Full(WakeError):
    """A book has as many facts of a kind as it may have."""


class NoFact(WakeError):
    """A value is no number of a fact of the book."""


class NoRules(WakeError):
    """No rules fit a book."""


class BadClaims(WakeError):
    """A value is no tuple of claims."""


class BadPrices(WakeError):
    """A value is no tuple of prices of the devices."""


class TooMany(WakeError):
    """There are more than can be dealt with."""


class BadOffers(WakeError):
    """A value is no tuple of offers."""


class BadClaim(WakeError):
    """A value is no claim, that is, no fact of the devices."""


class Contrary(WakeError):
    """After a deed no rules would fit the book."""


class IsOn(WakeError):
    """A device that is to be switched on is on."""


class NothingToUndo(WakeError):
    """No deed stands that could be taken back."""


class NothingToRedo(WakeError):
    """No deed was taken back that could be done again."""


class NoTrial(WakeError):
    """There is no trial that could be kept."""


class BadJournal(WakeError):
    """A line of a journal is wrong."""


class BadLine(WakeError):
    """A value is no line that a desk knows."""
