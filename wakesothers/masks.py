"""Lots as masks, integers whose bit k stands for the device with number k.

The ends of rules are a tuple that has, for each mask, the mask of what is on in
the end from it. A mask that lies within another one is the smaller integer.
"""


def mask_of(devices, lot):
    return sum([1 << at for at, name in enumerate(devices) if name in lot])


def lot_of(devices, mask):
    return tuple([name for at, name in enumerate(devices) if mask & (1 << at)])


def lots_of(devices, masks):
    """The ascending tuple of the lots of these masks."""
    return tuple(sorted([lot_of(devices, mask) for mask in masks]))


def single_masks(devices):
    """For each device the mask of it alone."""
    return [1 << at for at in range(len(devices))]


def end_of(steps, mask):
    """What is on in the end from the mask, by steps (mask, mask of the others)."""
    before = -1
    while before != mask:
        before = mask
        for first, others in steps:
            if mask & first == first:
                mask = mask | others
    return mask


def ends_of(devices, bundles):
    return ends_by(devices, [(mask_of(devices, lot), mask_of(devices, others)) for lot, others in bundles])


def ends_by(devices, steps):
    return tuple([end_of(steps, mask) for mask in range(1 << len(devices))])


def ends_with(ends, first, others):
    """The ends of the same rules with a step more, from the mask first to the others."""
    return tuple([ends[end | others] if end & first == first else end for end in ends])


def common_ends(ends, other_ends):
    return tuple([end & other_end for end, other_end in zip(ends, other_ends)])


def common_part(masks):
    """The common part of one or more masks."""
    common = masks[0]
    for mask in masks[1:]:
        common = common & mask
    return common


def ends_to(devices, rests):
    """The ends by which just all devices, and the common parts of one or more of the masks, stay."""
    every = mask_of(devices, devices)
    above = [[rest for rest in rests if mask & rest == mask] for mask in range(1 << len(devices))]
    return tuple([common_part([every, *told]) for told in above])


def rests_of(devices, ends):
    """The ascending tuple of all lots that stay."""
    return lots_of(devices, [mask for mask, end in enumerate(ends) if mask == end])


def needing_masks(ends):
    needing = []
    # In this sequence all masks within a mask come ahead of it.
    for mask, end in enumerate(ends):
        within = [ends[fewer] for fewer in needing if mask & fewer == fewer]
        if mask != end and all([mask & told == told for told in within]):
            needing.append(mask)
    return needing


def base_bundles(devices, ends):
    """The bundles of the least base: one for each needing lot, ascending."""
    needing = needing_masks(ends)
    return tuple(sorted([(lot_of(devices, mask), lot_of(devices, ends[mask] - mask)) for mask in needing]))
