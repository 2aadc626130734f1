"""What the tests compare the program with: slow, plain, and by names alone."""

from itertools import combinations
from random import Random

from wakesothers.errors import BadLot, WakeError
from wakesothers.rules import Rules

SIX = ("a", "b", "c", "d", "e", "f")


def all_lots(devices):
    """All lots, each in sequence, of fewer devices first."""
    return [lot for many in range(len(devices) + 1) for lot in combinations(devices, many)]


def has_within(lot, part):
    return set(part) <= set(lot)


def in_sequence(devices, names):
    return tuple(name for name in devices if name in names)


def end(devices, bundles, lot):
    """The lot that is on in the end: one bundle after the other, until none wakes more."""
    on = set(lot)
    while True:
        waking = [others for first, others in bundles if set(first) <= on and not set(others) <= on]
        if not waking:
            return in_sequence(devices, on)
        on |= set(waking[0])


def ends(devices, bundles):
    return {lot: end(devices, bundles, lot) for lot in all_lots(devices)}


def both_ends(one, other):
    """The ends of the common part of two Rules."""
    mine, yours = ends(one.devices, one.bundles), ends(other.devices, other.bundles)
    return {lot: in_sequence(one.devices, set(mine[lot]) & set(yours[lot])) for lot in mine}


def base_of(devices, told):
    """The bundles of the least base of the ends that are told, as section 6 has it."""
    needing = []
    for lot in all_lots(devices):
        fewer = [part for part in needing if len(part) < len(lot) and has_within(lot, part)]
        if told[lot] != lot and all(has_within(lot, told[part]) for part in fewer):
            needing.append(lot)
    return tuple((lot, in_sequence(devices, set(told[lot]) - set(lot))) for lot in sorted(needing))


def every_rules(devices):
    """All different Rules of the devices: one for each choice of lots that may be all that stay."""
    lots = all_lots(devices)
    found = []
    for choice in range(2 ** (len(lots) - 1)):
        stays = [lot for at, lot in enumerate(lots[:-1]) if choice >> at & 1] + [tuple(devices)]
        if all(in_sequence(devices, set(one) & set(other)) in stays for one in stays for other in stays):
            found.append(Rules(devices, _bundles_to(devices, stays)))
    return found


def _bundles_to(devices, stays):
    bundles = []
    for lot in all_lots(devices):
        least = min((rest for rest in stays if has_within(rest, lot)), key=len)
        if least != lot:
            bundles.append((lot, in_sequence(devices, set(least) - set(lot))))
    return tuple(bundles)


def some_bundles(devices, many, seed):
    """So many bundles of the devices (at least two), always the same of the same seed."""
    chance = Random(seed)
    bundles = []
    while len(bundles) < many:
        lot = in_sequence(devices, [name for name in devices if chance.random() < 0.4])
        others = [name for name in devices if name not in lot and chance.random() < 0.4]
        if others:
            bundles.append((lot, tuple(others)))
    return tuple(bundles)


def some_rules():
    """Rules of two to six devices, not in the sequence of their names."""
    found = []
    for seed in range(60):
        devices = ("lamp", "f", "pump", "aa", "kettlesx", "b")[: 2 + seed % 5]
        found.append(Rules(devices, some_bundles(devices, (0, 1, 2, 3, 5, 9)[seed % 6], seed)))
    return found


def nested(value, deep=29):
    for _ in range(deep):
        value = (value,)
    return value


def odd_values():
    """Values that are neither devices nor bundles nor lots nor results of anything."""
    rules = Rules(("fan", "lamp"), ((("fan",), ("lamp",)),))
    return [
        None, True, False, 0, 1, -1, "", "fan", "fan lamp", [], ["fan"], [()], {}, {"fan": "lamp"}, {"fan": True},
        rules, (rules,), [rules], {"fan": rules}, BadLot(("fan",)), (BadLot("fan"),), WakeError(None),
        (None,), (True,), (1,), (0,), ("",), ([],), ({},), ((), ()), (("fan",),), (["fan"],), ({"fan": 1},),
        nested("fan"), nested(["fan"]), nested(()), (("fan", None), ("lamp", [True])),
    ]
