"""What all Rules that fit some facts have in common: by the least ones of each case.

If something came on beside a lot, one of the other devices did: each choice of
these is a case, and the least Rules of it wake what was seen and chosen, and
what comes of this. All Rules that fit have the least Rules of some case within
them, and then these fit, too. So what comes on by all of these surely does; and
something perhaps does if a step to it can be put to the least Rules of a case.
"""

from wakesothers.errors import NoRules
from wakesothers.masks import common_part, ends_by, ends_with, lots_of, mask_of, single_masks
from wakesothers.search import limits_of, steps_of, stirs_of


def need_least(book):
    """The Least of the book; raises NoRules if no Rules fit it."""
    least = _least_of(book.devices, list(enumerate(book.facts)))
    if not least.cases:
        raise NoRules(book)
    return least


class Least:
    """The ends of the least Rules of each case that fit, and what may not come on: (mask, barred)."""

    def __init__(self, devices, limits, cases):
        self.devices = devices
        self.limits = limits
        # Different choices can come to the same.
        self.cases = list({ends: True for ends in cases if _are_kept(limits, ends)})

    def surely(self, mask):
        """What is on in the end, from the mask, by all Rules that fit."""
        return common_part([ends[mask] for ends in self.cases])

    def perhaps(self, mask):
        """What is on in the end, from the mask, by some Rules that fit, each device by its own."""
        return sum([device for device in single_masks(self.devices) if self.can_wake(mask, device)])

    def can_wake(self, mask, others):
        """Whether all of the others are on in the end, from the mask, by some Rules that fit."""
        for ends in self.cases:
            if _are_kept_with(self.limits, ends, mask, others):
                return True
        return False

    def can_stay(self, mask):
        """Whether nothing comes on beside the mask by some Rules that fit."""
        return any([ends[mask] == mask for ends in self.cases])

    def can_end(self, mask, rest):
        """Whether the mask comes to this rest by some Rules that fit."""
        for ends in self.cases:
            if ends[rest] == rest and _are_kept_with(self.limits, ends, mask, rest):
                return True
        return False

    def ends_from(self, mask):
        """The ascending tuple of all lots to which the mask comes by some Rules that fit."""
        above = [rest for rest in range(1 << len(self.devices)) if mask & rest == mask]
        return lots_of(self.devices, [rest for rest in above if self.can_end(mask, rest)])

    def can_be(self, fact):
        """Whether the fact is so by some Rules that fit."""
        mask = mask_of(self.devices, fact[1])
        device = mask_of(self.devices, fact[2:])
        if fact[0] == "stays":
            return self.can_stay(mask)
        if fact[0] == "stirs":
            return self.perhaps(mask) != mask
        if fact[0] == "wakes":
            return self.can_wake(mask, device)
        return not self.surely(mask) & device

    def seen(self, mask, rest):
        """The Least of these facts, and that the mask was seen to come to this rest."""
        every = mask_of(self.devices, self.devices)
        cases = [ends_with(ends, mask, rest) for ends in self.cases]
        return Least(self.devices, [*self.limits, (rest, every - rest)], cases)


def _least_of(devices, numbered):
    limits = [(mask, barred) for number, mask, barred in limits_of(devices, numbered)]
    stirs = [mask for number, mask in stirs_of(devices, numbered)]
    ends = ends_by(devices, list(steps_of(devices, numbered).values()))
    return Least(devices, limits, _cases(single_masks(devices), limits, stirs, ends))


def _cases(devices, limits, stirs, ends):
    """The ends of the least Rules of each case in which these, and what is chosen beside, come on."""
    if not _are_kept(limits, ends):
        return []
    for mask in stirs:
        # If something comes on by now, there is no need to choose.
        if ends[mask] == mask:
            found = []
            for device in devices:
                if not mask & device:
                    found.extend(_cases(devices, limits, stirs, ends_with(ends, mask, device)))
            return found
    return [ends]


def _are_kept(limits, ends):
    """Whether by these ends nothing comes on that may not."""
    return _are_kept_with(limits, ends, 0, 0)


def _are_kept_with(limits, ends, mask, others):
    """Whether nothing comes on that may not, if the others come on with the mask, too."""
    for first, barred in limits:
        end = ends[first]
        if end & mask == mask:
            end = ends[end | others]
        if end & barred:
            return False
    return True
