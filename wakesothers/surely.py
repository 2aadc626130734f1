"""What surely comes on, and what perhaps does, by all Rules that fit a book."""

from wakesothers.checks import need_lot
from wakesothers.least import need_least
from wakesothers.masks import ends_to, lot_of, mask_of
from wakesothers.rules import rules_by


def comes(book, lot):
    """(surely, perhaps): what is on in the end, from the lot, by all Rules that fit, and by some."""
    least = need_least(book)
    need_lot(book.devices, lot)
    mask = mask_of(book.devices, lot)
    return (lot_of(book.devices, least.surely(mask)), lot_of(book.devices, least.perhaps(mask)))


def ends(book, lot):
    """The ascending tuple of all lots in which the lot can come to rest."""
    least = need_least(book)
    need_lot(book.devices, lot)
    return least.ends_from(mask_of(book.devices, lot))


def sure(book):
    """The Rules by which just that comes on which surely does."""
    least = need_least(book)
    return rules_by(book.devices, tuple([least.surely(mask) for mask in range(1 << len(book.devices))]))


def outer(book):
    """The Rules of which just those lots stay that stay by all Rules that fit."""
    least = need_least(book)
    rests = [mask for mask in range(1 << len(book.devices)) if least.perhaps(mask) == mask]
    return rules_by(book.devices, ends_to(book.devices, rests))
