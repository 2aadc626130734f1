"""Trials: which offered lots to try, so that a claim is known whatever is seen."""

from wakesothers.checks import has_form, is_integer, is_lot, is_price
from wakesothers.errors import BadClaim, BadOffers
from wakesothers.facts import contrary, is_fact
from wakesothers.least import need_least
from wakesothers.masks import mask_of

MOST_OFFERS = 3


def trials(book, offers, claim):
    """(price, tree): the least price of a trial tree, and such a tree; () if there is none."""
    least = _need(book, offers, claim)
    tries = Tries(book.devices, offers, claim)
    return tries.cheapest(least, tries.numbers, sum(tries.prices))


def shows_trials(book, offers, claim, value):
    """Whether the value is a result of trials, whoever made it."""
    told = trials(book, offers, claim)
    if told == ():
        return value == ()
    if not isinstance(value, tuple) or len(value) != 2 or not is_integer(value[0]) or value[0] != told[0]:
        return False
    tries = Tries(book.devices, offers, claim)
    return tries.price_of(need_least(book), tries.numbers, value[1]) == told[0]


class Tries:
    """The offers, and the claim that is to be known.

    On the way a Least stands for what was seen, and numbers are those of the
    offers that were not tried.
    """

    def __init__(self, devices, offers, claim):
        self.devices = devices
        self.claim = claim
        self.masks = [mask_of(devices, lot) for lot, price in offers]
        self.prices = [price for lot, price in offers]
        self.numbers = list(range(len(offers)))

    def word(self, least):
        """What judged tells of the claim."""
        if not least.can_be(self.claim):
            return "never"
        return "open" if least.can_be(contrary(self.claim)) else "always"

    def cheapest(self, least, numbers, most):
        """(price, tree), if the least price is this much at most, otherwise ()."""
        word = self.word(least)
        if word != "open":
            return (0, ("known", word))
        best = ()
        for number in numbers:
            # What costs no less than the best one is of no use.
            limit = most if best == () else best[0] - 1
            if self.prices[number] <= limit:
                told = self.cheapest_by(least, numbers, number, limit - self.prices[number])
                best = best if told == () else told
        return best

    def cheapest_by(self, least, numbers, number, most):
        """(price, tree) if this offer is tried first, and the others cost this much at most, otherwise ()."""
        others = [other for other in numbers if other != number]
        rows = []
        dearest = 0
        for rest in least.ends_from(self.masks[number]):
            told = self.cheapest(self.seen(least, number, rest), others, most)
            if told == ():
                return ()
            rows.append((rest, told[1]))
            dearest = max(dearest, told[0])
        return (self.prices[number] + dearest, ("try", number, tuple(rows)))

    def price_of(self, least, numbers, tree):
        """The price of a right trial tree, or None if the value is none."""
        if has_form(tree, "known", 2):
            return 0 if tree[1] == self.word(least) and tree[1] != "open" else None
        if not has_form(tree, "try", 3) or not is_integer(tree[1]) or tree[1] not in numbers:
            return None
        number = tree[1]
        rests = least.ends_from(self.masks[number])
        if not isinstance(tree[2], tuple) or len(tree[2]) != len(rests):
            return None
        others = [other for other in numbers if other != number]
        dearest = 0
        for rest, row in zip(rests, tree[2]):
            if not isinstance(row, tuple) or len(row) != 2 or row[0] != rest:
                return None
            price = self.price_of(self.seen(least, number, rest), others, row[1])
            if price is None:
                return None
            dearest = max(dearest, price)
        return self.prices[number] + dearest

    def seen(self, least, number, rest):
        """What was seen, and that the offer came to this rest."""
        return least.seen(self.masks[number], mask_of(self.devices, rest))


def _need(book, offers, claim):
    if not _are_offers(book.devices, offers):
        raise BadOffers(offers)
    if not is_fact(book.devices, claim):
        raise BadClaim(claim)
    return need_least(book)


def _are_offers(devices, value):
    if not isinstance(value, tuple) or not 1 <= len(value) <= MOST_OFFERS:
        return False
    if not all([_is_offer(devices, offer) for offer in value]):
        return False
    # Only lots go into the set: it cannot take each value.
    return len({lot for lot, price in value}) == len(value)


def _is_offer(devices, value):
    return isinstance(value, tuple) and len(value) == 2 and is_lot(devices, value[0]) and is_price(value[1])
