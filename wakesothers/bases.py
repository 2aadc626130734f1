"""The least base of Rules, and Rules made again of lots that stay."""

from wakesothers.checks import are_devices, are_rests
from wakesothers.errors import BadDevices, BadRests
from wakesothers.masks import common_part, ends_of, ends_to, lots_of, mask_of
from wakesothers.rules import rules_by


def needing(rules):
    """The ascending tuple of all needing lots."""
    return tuple([lot for lot, others in base(rules).bundles])


def base(rules):
    """The equal Rules with a bundle for each needing lot; none have fewer bundles."""
    return rules_by(rules.devices, ends_of(rules.devices, rules.bundles))


def own_rests(rules):
    """The ascending tuple of the lots that stay, but come of no others that stay."""
    rests = [mask_of(rules.devices, lot) for lot in rules.rests]
    return lots_of(rules.devices, [rest for rest in rests if _is_own(rests, rest)])


def of_rests(devices, rests):
    """The Rules, by their base, of which just these lots, and what comes of them, stay."""
    if not are_devices(devices):
        raise BadDevices(devices)
    if not are_rests(devices, rests):
        raise BadRests(rests)
    return rules_by(devices, ends_to(devices, [mask_of(devices, lot) for lot in rests]))


def _is_own(rests, rest):
    """Whether the mask is neither that of all devices nor the common part of others that stay."""
    others = [other for other in rests if rest & other == rest and rest != other]
    # Beside the lot of all devices, each has at least this one above it.
    return others != [] and common_part(others) != rest
