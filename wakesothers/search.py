"""Whether any Rules fit some facts: such Rules, or a tree that shows that none do.

If something came on beside a lot, one of the other devices did: so a fact
stirs forks into a case for each of these. What wakes in such a case, wakes by
all Rules that fit and are of this case. The Rules of just this wake least of
all of them: if something comes on by these that may not, none of the case fit.

The steps of a case have, by the number of its fact, the mask of the lot and
that of the device that comes on. Facts are numbered from outside: so some may
be left out, and the others keep their numbers.
"""

from wakesothers.masks import ends_by, ends_with, lot_of, mask_of, single_masks
from wakesothers.rules import rules_by


def rules_or_tree(devices, facts):
    """("rules", Rules that fit all of the facts), or ("never", a tree of them)."""
    return _found(devices, list(enumerate(facts)))[:2]


def rules_or_used(devices, numbered):
    """("rules", Rules that fit all of (number, fact)), or ("never", the numbers of some that none fit)."""
    told = _found(devices, numbered)
    if told[0] == "rules":
        return told
    return ("never", tuple([number for number, fact in numbered if told[2] & (1 << number)]))


def rules_or_trees(devices, facts, more):
    """("rules", Rules that fit the facts and any one more), or ("never", trees of the facts with each)."""
    trees = []
    for fact in more:
        told = rules_or_tree(devices, (*facts, fact))
        if told[0] == "rules":
            return told
        trees.append(told[1])
    return ("never", tuple(trees))


def steps_of(devices, numbered):
    """The steps by the facts wakes: what comes on in all cases."""
    return {
        number: (mask_of(devices, fact[1]), mask_of(devices, fact[2:]))
        for number, fact in numbered
        if fact[0] == "wakes"
    }


def stirs_of(devices, numbered):
    """For each fact stirs its number and its mask."""
    return [(number, mask_of(devices, fact[1])) for number, fact in numbered if fact[0] == "stirs"]


def limits_of(devices, numbered):
    """For each fact stays or sleeps its number, its mask, and that of what may not come on."""
    every = mask_of(devices, devices)
    limits = []
    for number, fact in numbered:
        mask = mask_of(devices, fact[1])
        if fact[0] == "stays":
            limits.append((number, mask, every - mask))
        if fact[0] == "sleeps":
            limits.append((number, mask, mask_of(devices, fact[2:])))
    return limits


class Search:
    """The facts that are to be kept, as masks, each with its number."""

    def __init__(self, devices, numbered):
        self.devices = devices
        self.stirs = stirs_of(devices, numbered)
        self.limits = limits_of(devices, numbered)

    def found(self, steps, ends):
        """What there is in the case of these steps: ("rules", Rules), or ("never", tree, bits of its facts)."""
        for number, mask, barred in self.limits:
            if ends[mask] & barred:
                leading = _leading(steps, mask, barred)
                used = sum([1 << taken for taken in leading], start=1 << number)
                told = tuple([(taken, lot_of(self.devices, steps[taken][1])[0]) for taken in leading])
                return ("never", ("leaf", number, told), used)
        for number, mask in self.stirs:
            # If something comes on by now, there is no need to choose.
            if ends[mask] == mask:
                return self.forked(steps, ends, number, mask)
        return ("rules", rules_by(self.devices, ends))

    def forked(self, steps, ends, number, mask):
        """What there is in all cases in which a device comes on beside the mask."""
        trees = []
        bits = 1 << number
        for device in single_masks(self.devices):
            if not mask & device:
                told = self.found({**steps, number: (mask, device)}, ends_with(ends, mask, device))
                # A tree without a step by this choice is right whatever is chosen.
                if told[0] == "rules" or not told[2] & (1 << number):
                    return told
                trees.append(told[1])
                bits = bits | told[2]
        return ("never", ("fork", number, tuple(trees)), bits)


def _found(devices, numbered):
    steps = steps_of(devices, numbered)
    return Search(devices, numbered).found(steps, ends_by(devices, list(steps.values())))


def _leading(steps, mask, barred):
    """The numbers of the steps that are needed, from the mask on, until a barred device is on."""
    taken = []
    on = mask
    while not on & barred:
        taken.append(_next_step(steps, on))
        on = on | steps[taken[-1]][1]
    needed = []
    wanted = on & barred
    for number in reversed(taken):
        first, device = steps[number]
        if wanted & device:
            needed.append(number)
            wanted = wanted | first
    return list(reversed(needed))


def _next_step(steps, mask):
    """The number of the first step that brings a device on beside the mask; there must be one."""
    waking = [
        number for number, (first, device) in steps.items() if mask & first == first and not mask & device
    ]
    return waking[0]
