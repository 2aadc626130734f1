"""What the tests of sections 10 to 15 compare the program with: plain, and by names alone."""

from functools import cache
from itertools import product
from random import Random

from tests.plain import all_lots, end, has_within, in_sequence
from tests.seen import MOST, contrary, every_ends, great_books, small_books, so_by
from wakesothers.rules import Rules


def fitting(devices, facts):
    """All different Rules of up to three devices that fit, each with its ends."""
    return [(rules, told) for rules, told in every_ends(devices) if all(so_by(told, fact) for fact in facts)]


@cache
def small_fitting():
    """Devices, facts that some Rules fit, and all these Rules with their ends."""
    found = [(devices, facts, fitting(devices, facts)) for devices, facts in small_books()]
    return [case for case in found if case[2]]


@cache
def small_barred():
    """Devices and facts that no Rules fit."""
    return [(devices, facts) for devices, facts in small_books() if not fitting(devices, facts)]


def common(devices, lots):
    return in_sequence(devices, set(devices).intersection(*lots))


def together(devices, lots):
    return in_sequence(devices, set().union(*lots))


def surely_of(devices, found, lot):
    return common(devices, [told[lot] for _, told in found])


def perhaps_of(devices, found, lot):
    return together(devices, [told[lot] for _, told in found])


def ends_of(found, lot):
    return tuple(sorted({told[lot] for _, told in found}))


def least(lots):
    return tuple(sorted(lot for lot in lots if not any(has_within(lot, part) and part != lot for part in lots)))


def greatest(lots):
    return tuple(sorted(lot for lot in lots if not any(has_within(more, lot) and more != lot for more in lots)))


def sure_lots(devices, found, goal):
    """All lots from which all of the goal is on in the end by all of the Rules."""
    return [lot for lot in all_lots(devices) if has_within(surely_of(devices, found, lot), goal)]


def chance_lots(devices, found, goal):
    return [lot for lot in all_lots(devices) if any(has_within(told[lot], goal) for _, told in found)]


def word_of(found, claims):
    """The word of judged, by all Rules that fit."""
    answers = {all(so_by(told, claim) for claim in claims) for _, told in found}
    return "open" if len(answers) == 2 else "always" if True in answers else "never"


def bundles_of(devices, facts):
    """For each choice for the facts stirs, the bundles of the least Rules, if these keep all facts."""
    stirs = [fact[1] for fact in facts if fact[0] == "stirs"]
    wakes = [(fact[1], (fact[2],)) for fact in facts if fact[0] == "wakes"]
    limits = [fact for fact in facts if fact[0] in ("stays", "sleeps")]
    for chosen in product(*[[name for name in devices if name not in lot] for lot in stirs]):
        bundles = wakes + [(lot, (name,)) for lot, name in zip(stirs, chosen)]
        if all(so_by({fact[1]: end(devices, bundles, fact[1])}, fact) for fact in limits):
            yield bundles


@cache
def some_fit(devices, facts):
    """Whether some Rules fit, of as many devices and facts as there may be."""
    return next(bundles_of(devices, facts), None) is not None


def seen_to_end(lot, rest):
    """The facts that from the lot just this rest was come to."""
    return tuple(("wakes", lot, name) for name in rest if name not in lot) + (("stays", rest),)


def with_wakes(lot, goal):
    """The facts that all of the goal is on in the end from the lot."""
    return tuple(("wakes", lot, name) for name in goal if name not in lot)


@cache
def loose_books():
    """Facts of six devices, by which much is open: Rules, and some of the facts that are so of them."""
    found = []
    for at, (rules, facts) in enumerate(great_books()):
        chance = Random(at)
        stirs = [fact for fact in facts if fact[0] == "stirs"]
        others = [fact for fact in facts if fact[0] != "stirs"]
        found.append((rules, tuple(stirs + chance.sample(others, 2 + at % 9))))
    return found


def renamings(devices, chance, many=2):
    """Tables of other names, and the devices of these, in other sequences."""
    found = []
    for _ in range(many):
        names = chance.sample(("x", "n", "a", "zoo", "fan", "b", "q", "lamp"), len(devices))
        found.append((dict(zip(devices, names)), tuple(chance.sample(names, len(names)))))
    return found


def led_lot(table, devices, lot):
    return in_sequence(devices, [table[name] for name in lot])


def led_lots(table, devices, lots):
    return tuple(sorted(led_lot(table, devices, lot) for lot in lots))


def some_lots(devices, chance, many):
    """The lot (), that of all devices, and others."""
    lots = all_lots(devices)
    return [lots[0], lots[-1]] + chance.sample(lots, min(many, len(lots)))


def random_contraries(facts, chance, many):
    """The facts, but for so many the contrary; what a book may not have more of is left out."""
    turned = set(chance.sample(range(len(facts)), min(many, len(facts))))
    return as_many_as_may_be(contrary(fact) if at in turned else fact for at, fact in enumerate(facts))


def as_many_as_may_be(facts):
    """The facts, but those that are there already, and what a book may not have more of."""
    found = []
    for fact in facts:
        if fact not in found and len([told for told in found if told[0] == fact[0]]) < MOST[fact[0]]:
            found.append(fact)
    return tuple(found)


def wrong_lots():
    """Values that are no lots of fan, lamp, pump."""
    return [
        None, True, 0, "", "fan", ["fan"], [], {}, {"fan": 1}, ("fan", "fan"), ("lamp", "fan"), ("pump", "lamp"), ("fox",), ("",),
        ("fan", None), (("fan",),), ((),), (["fan"],), ("fan lamp",), ("fan", "lamp", "pump", "fan"), (True,), (1,), (Rules(("fan",)),),
        Rules(("fan", "lamp", "pump")), ("fan", ("lamp",)), {("fan",): ()}, ((((("fan",),),),),),
    ]
