"""Whether any Rules fit some facts: such Rules, or a tree that shows that none do.

If something came on beside a lot, one of the other devices did: so a fact
stirs forks into a case for each of these. What wakes in such a case, wakes by
all Rules that fit and are of this case. The Rules of just this wake least of
all of them: if something comes on by these that may not, none of the case fit.
"""

from wakesothers.masks import base_bundles, end_of, ends_by, lot_of, mask_of
from wakesothers.rules import Rules


def rules_or_tree(devices, facts):
    """("rules", Rules that fit all of the facts), or ("never", a tree of them)."""
    steps = {
        number: (mask_of(devices, fact[1]), mask_of(devices, fact[2:]))
        for number, fact in enumerate(facts)
        if fact[0] == "wakes"
    }
    return Search(devices, facts).found(steps)


class Search:
    """The facts that are to be kept, as masks, each with its number.

    The steps of a case have, by the number of its fact, the mask of the lot and
    that of the device that comes on.
    """

    def __init__(self, devices, facts):
        self.devices = devices
        self.stirs = _stirs(devices, facts)
        self.limits = _limits(devices, facts)

    def found(self, steps):
        """What there is in the case of these steps: Rules, or a tree."""
        waking = list(steps.values())
        for number, mask, barred in self.limits:
            if end_of(waking, mask) & barred:
                return ("never", ("leaf", number, self.leading(steps, mask, barred)))
        for number, mask in self.stirs:
            # If something comes on by now, there is no need to choose.
            if end_of(waking, mask) == mask:
                return self.forked(steps, number, mask)
        ends = ends_by(self.devices, waking)
        return ("rules", Rules(self.devices, base_bundles(self.devices, ends)))

    def forked(self, steps, number, mask):
        """What there is in all cases in which a device comes on beside the mask."""
        trees = []
        for at in range(len(self.devices)):
            if not mask & (1 << at):
                told = self.found({**steps, number: (mask, 1 << at)})
                if told[0] == "rules":
                    return told
                trees.append(told[1])
        return ("never", ("fork", number, tuple(trees)))

    def leading(self, steps, mask, barred):
        """Steps (number, device) from the mask on, until a barred device is on."""
        told = []
        while not mask & barred:
            number, others = _next_step(steps, mask)
            told.append((number, lot_of(self.devices, others)[0]))
            mask = mask | others
        return tuple(told)


def _stirs(devices, facts):
    """For each fact stirs its number and its mask."""
    return [(number, mask_of(devices, fact[1])) for number, fact in enumerate(facts) if fact[0] == "stirs"]


def _limits(devices, facts):
    """For each fact stays or sleeps its number, its mask, and that of what may not come on."""
    every = mask_of(devices, devices)
    limits = []
    for number, fact in enumerate(facts):
        mask = mask_of(devices, fact[1])
        if fact[0] == "stays":
            limits.append((number, mask, every - mask))
        if fact[0] == "sleeps":
            limits.append((number, mask, mask_of(devices, fact[2:])))
    return limits


def _next_step(steps, mask):
    """The first step that brings something on beside the mask; there must be one."""
    waking = [
        (number, others)
        for number, (first, others) in steps.items()
        if mask & first == first and not mask & others
    ]
    return waking[0]
