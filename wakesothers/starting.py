"""From which lots a goal is on in the end: surely, perhaps, and at what price."""

from wakesothers.checks import is_price, need_lot
from wakesothers.errors import BadPrices
from wakesothers.least import need_least
from wakesothers.masks import lots_of, mask_of


def starters(book, goal):
    """The ascending tuple of all least lots from which all of the goal surely is on in the end."""
    return lots_of(book.devices, _least_masks(_sure_masks(book, goal)))


def blockers(book, goal):
    """The ascending tuple of all greatest lots from which not all of the goal surely is on in the end."""
    sure = _sure_masks(book, goal)
    others = [mask for mask in range(1 << len(book.devices)) if mask not in sure]
    return lots_of(book.devices, _greatest_masks(others))


def chances(book, goal):
    """The ascending tuple of all least lots from which by some Rules all of the goal is on in the end."""
    least = need_least(book)
    need_lot(book.devices, goal)
    wanted = mask_of(book.devices, goal)
    masks = [mask for mask in range(1 << len(book.devices)) if least.can_wake(mask, wanted)]
    return lots_of(book.devices, _least_masks(masks))


def cheapest(book, goal, prices):
    """(price, lots): the least price of a lot from which all of the goal surely comes, and all of this price."""
    sure = _sure_masks(book, goal)
    if not _are_prices(book.devices, prices):
        raise BadPrices(prices)
    told = [(_price_of(prices, mask), mask) for mask in sure]
    least_price = min([price for price, mask in told])
    return (least_price, lots_of(book.devices, [mask for price, mask in told if price == least_price]))


def _sure_masks(book, goal):
    """All masks from which all of the goal surely is on in the end."""
    least = need_least(book)
    need_lot(book.devices, goal)
    wanted = mask_of(book.devices, goal)
    return [mask for mask in range(1 << len(book.devices)) if least.surely(mask) & wanted == wanted]


def _least_masks(masks):
    """Those that have none of the others within."""
    return [mask for mask in masks if not any([mask & fewer == fewer and mask != fewer for fewer in masks])]


def _greatest_masks(masks):
    """Those that lie within none of the others."""
    return [mask for mask in masks if not any([mask & more == mask and mask != more for more in masks])]


def _are_prices(devices, value):
    if not isinstance(value, tuple) or len(value) != len(devices):
        return False
    return all([is_price(price) for price in value])


def _price_of(prices, mask):
    return sum([price for at, price in enumerate(prices) if mask & (1 << at)])
