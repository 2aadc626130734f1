"""Promises 10 to 13: the least base of Rules, and Rules made again of lots that stay."""

import unittest
from itertools import combinations
from random import Random

from tests.cases import Case
from tests.plain import SIX, all_lots, base_of, end, ends, every_rules, has_within, in_sequence, nested, odd_values
from tests.plain import some_bundles, some_rules
from tests.seen import SMALL, shape
from tests.test_rules import wrong_lots
from wakesothers.bases import base, needing, of_rests, own_rests
from wakesothers.errors import BadDevices, BadRests
from wakesothers.rules import Rules

THREE = ("fan", "lamp", "pump")


def many_rules():
    small = [rules for devices in SMALL for rules in every_rules(devices)]
    great = [Rules(SIX, some_bundles(SIX, 64, seed)) for seed in (1, 2)]
    # Bundles of great lots, of which each wakes one device: many are needing.
    lots = [lot for lot in all_lots(("c", "f", "a", "e", "b", "d")) if len(lot) == 3]
    many = Rules(("c", "f", "a", "e", "b", "d"), tuple((lot, others_of(lot)[:1]) for lot in lots))
    return small + some_rules() + great + [many, Rules(SIX), Rules(SIX, (((), SIX),)), Rules(("a",), (((), ("a",)),) * 64)]


def others_of(lot):
    return tuple(name for name in ("c", "f", "a", "e", "b", "d") if name not in lot)


def rests_by_own(rules):
    """The lots that stay, but that of all devices, and that are no common part of those above them."""
    own = []
    for lot in rules.rests:
        above = [set(rest) for rest in rules.rests if has_within(rest, lot) and rest != lot]
        if lot != rules.devices and set.intersection(*above) != set(lot):
            own.append(lot)
    return tuple(own)


def closed(devices, rests):
    """The lot of all devices, and the common parts of one or more of the lots."""
    found = {devices}
    for lot in rests:
        found |= {in_sequence(devices, set(lot) & set(rest)) for rest in found} | {lot}
    return tuple(sorted(found))


class Promise10(Case):
    def test_needing_by_its_definition(self):
        for rules in many_rules():
            told = needing(rules)
            self.alike(tuple(sorted(set(told))), told)
            rest = {lot: end(rules.devices, rules.bundles, lot) for lot in all_lots(rules.devices)}
            for lot in all_lots(rules.devices):
                fewer = [part for part in told if len(part) < len(lot) and has_within(lot, part)]
                wanted = rest[lot] != lot and all(has_within(lot, rest[part]) for part in fewer)
                self.assertIs(wanted, lot in told, (rules.bundles, lot))

    def test_base_has_a_bundle_for_each_needing_lot(self):
        for rules in many_rules():
            told = base(rules)
            self.assertIsInstance(told, Rules)
            self.is_true(told == rules)
            self.alike(rules.devices, told.devices)
            self.alike(base_of(rules.devices, ends(rules.devices, rules.bundles)), told.bundles)
            self.alike(needing(rules), tuple(lot for lot, others in told.bundles))
            for lot, others in told.bundles:
                self.alike(in_sequence(rules.devices, set(rules.rest(lot)) - set(lot)), others)

    def test_the_base_of_a_base_is_itself(self):
        for rules in many_rules():
            told = base(rules)
            self.alike(shape(told), shape(base(told)))
            self.alike(needing(rules), needing(told))

    def test_equal_rules_have_the_same_base(self):
        for rules in many_rules():
            told = whole(rules)
            for bundles in (told, told[::-1], told[::2] + told[1::2]):
                equal = Rules(rules.devices, bundles)
                self.is_true(equal == rules)
                self.alike(shape(base(rules)), shape(base(equal)))
                self.alike(needing(rules), needing(equal))

    def test_by_hand(self):
        chain = Rules(THREE, ((("fan",), ("lamp",)), (("lamp",), ("pump",))))
        self.alike((("fan",), ("lamp",)), needing(chain))
        self.alike(((("fan",), ("lamp", "pump")), (("lamp",), ("pump",))), base(chain).bundles)
        # From fan pump comes on, too, which fan and lamp do not have within.
        both = Rules(THREE, ((("fan",), ("lamp",)), (("fan", "lamp"), ("pump",))))
        self.alike((("fan",),), needing(both))
        two = Rules(("a", "b", "c", "d"), ((("a",), ("b",)), (("a", "b", "c"), ("d",))))
        self.alike((("a",), ("a", "b", "c")), needing(two))
        three = Rules(("a", "b", "c", "d"), ((("a",), ("b",)), (("a", "c"), ("d",))))
        self.alike((("a",), ("a", "b", "c")), needing(three))
        self.alike(((("a",), ("b",)), (("a", "b", "c"), ("d",))), base(three).bundles)
        self.alike(((),), needing(Rules(("a",), (((), ("a",)),))))
        self.alike(((), ("a", "b")), needing(Rules(("a", "b", "c"), (((), ("a",)), (("b",), ("c",))))))

    def test_no_bundles(self):
        for devices in (("a",), THREE, SIX):
            self.alike((), needing(Rules(devices)))
            self.alike((), base(Rules(devices)).bundles)

    def test_ascending_as_names_though_devices_stand_otherwise(self):
        rules = Rules(("pump", "fan", "lamp"), ((("pump",), ("lamp",)), (("lamp",), ("fan",)), (("fan",), ("pump",))))
        self.alike((("fan",), ("lamp",), ("pump",)), needing(rules))
        self.alike(
            ((("fan",), ("pump", "lamp")), (("lamp",), ("pump", "fan")), (("pump",), ("fan", "lamp"))),
            base(rules).bundles,
        )


def whole(rules):
    """A bundle for each lot that does not stay, with all that comes on from it."""
    told = ends(rules.devices, rules.bundles)
    return tuple((lot, in_sequence(rules.devices, set(told[lot]) - set(lot))) for lot in told if told[lot] != lot)


class Promise11(Case):
    def test_each_needing_lot_wants_a_bundle_of_its_own(self):
        for rules in many_rules():
            taken = set()
            for lot in needing(rules):
                own = [
                    number
                    for number, (first, _) in enumerate(rules.bundles)
                    if has_within(lot, first) and rules.rest(first) == rules.rest(lot) and number not in taken
                ]
                self.assertTrue(own, (rules.bundles, lot))
                taken.update(own)
            self.assertLessEqual(len(base(rules)), len(rules))

    def test_no_fewer_bundles_of_any_kind_do_for_two_devices(self):
        devices = ("b", "a")
        lots = all_lots(devices)
        every = [(lot, others) for lot in lots for others in lots[1:] if not set(lot) & set(others)]
        least = {}
        for many in range(4):
            for bundles in combinations(every, many):
                least.setdefault(Rules(devices, bundles).rests, many)
        self.alike(7, len(least))
        for rules in every_rules(devices):
            self.alike(least[rules.rests], len(base(rules)))

    def test_no_fewer_bundles_of_any_kind_do_for_three_devices(self):
        lots = all_lots(THREE)
        every = [(lot, others) for lot in lots for others in lots[1:] if not set(lot) & set(others)]
        least = {}
        for many in range(4):
            for bundles in combinations(every, many):
                least.setdefault(Rules(THREE, bundles).rests, many)
        self.alike(61, len(least))
        for rules in every_rules(THREE):
            self.alike(least[rules.rests], len(base(rules)))


class Promise12(Case):
    def test_own_rests_by_their_definition(self):
        for rules in many_rules():
            told = own_rests(rules)
            self.alike(rests_by_own(rules), told)
            self.assertNotIn(rules.devices, told)

    def test_of_rests_of_these_is_these_rules_again(self):
        for rules in many_rules():
            own = own_rests(rules)
            again = of_rests(rules.devices, own)
            self.is_true(again == rules)
            self.alike(shape(base(rules)), shape(again))
            self.is_true(of_rests(rules.devices, rules.rests[:64]) == rules)
            self.is_true(of_rests(rules.devices, own[::-1] + own[:1]) == rules)
            for at in range(len(own)):
                self.is_false(of_rests(rules.devices, own[:at] + own[at + 1 :]) == rules)

    def test_of_rests_of_any_lots(self):
        chance = Random(5)
        for devices in SMALL + (("d", "a", "c", "b"), ("e", "a", "d", "b", "c"), SIX):
            for many in range(24):
                rests = tuple(chance.choice(all_lots(devices)) for _ in range(many % 9))
                told = of_rests(devices, rests)
                self.assertIsInstance(told, Rules)
                self.alike(devices, told.devices)
                self.alike(closed(devices, rests), told.rests)
                self.alike(shape(base(told)), shape(told))

    def test_by_hand(self):
        self.alike(((), ("a", "b"), ("b",)), of_rests(("a", "b"), (("b",), ())).rests)
        self.alike((("a", "b"),), of_rests(("a", "b"), ()).rests)
        self.alike((((), ("a", "b")),), of_rests(("a", "b"), ()).bundles)
        self.alike((((), ("a", "b")),), of_rests(("a", "b"), (("a", "b"), ("a", "b"))).bundles)
        self.alike((), of_rests(("a",), ((),)).bundles)
        self.alike(((),), own_rests(Rules(("a",))))
        self.alike((), own_rests(Rules(("a",), (((), ("a",)),))))
        self.alike(tuple(sorted(lot for lot in all_lots(SIX) if len(lot) == 5)), own_rests(Rules(SIX)))
        self.alike(((), ("fan",), THREE, ("lamp",)), of_rests(THREE, (("fan",), ("lamp",))).rests)

    def test_sixty_four_lots(self):
        lots = tuple(all_lots(SIX))
        self.alike((), of_rests(SIX, lots).bundles)
        self.alike((SIX[:5], SIX), of_rests(SIX, (SIX[:5],) * 64).rests)


class Promise13(Case):
    def test_no_devices(self):
        wrong = [value for value in odd_values() if value != ("fan",)] + [
            (), SIX + ("g",), ("a", "a"), list(SIX), ["a"], "a", ("abcdefghi",), ("A",), ("a", ""), ("a b",), ("a", None),
            ("a", True), ("a", ["b"]), (("a", "b"),), ("a", {}), Rules(("a",)), nested("a"),
        ]
        for value in wrong:
            for rests in ((), ((),), None, (("a",),), [()]):
                self.refused(BadDevices, value, of_rests, value, rests)
                self.refused(BadDevices, value, of_rests, rests=rests, devices=value)

    def test_no_lots(self):
        right = [repr(value) for value in ((()), ((), ()), (("fan",),))]
        wrong = [value for value in odd_values() if repr(value) not in right]
        wrong += [["fan"], [()], "", {}, {(): 1}, "fan", ((), [()]), (THREE, list(THREE)), THREE, ("fan",), ((), None)]
        for lot in wrong_lots():
            wrong += [(lot,), ((), lot), (lot, ("fan",)), (THREE, lot, THREE)] if not right_lot(lot) else []
        for value in wrong:
            self.refused(BadRests, value, of_rests, THREE, value)
            self.refused(BadRests, value, of_rests, rests=value, devices=THREE)

    def test_sixty_five_lots(self):
        lots = tuple(all_lots(SIX))
        for value in (lots + lots[:1], ((),) * 65, ((),) * 1000, lots + (None,)):
            self.refused(BadRests, value, of_rests, SIX, value)
        value = tuple(all_lots(THREE)) * 8
        self.alike((), of_rests(THREE, value).bundles)
        value = value + ((),)
        self.refused(BadRests, value, of_rests, THREE, value)

    def test_lots_of_other_devices_or_in_another_sequence(self):
        value = (("fan", "lamp"),)
        self.refused(BadRests, value, of_rests, ("lamp", "fan"), value)
        self.refused(BadRests, value, of_rests, ("fan",), value)
        self.alike(((), ("lamp", "fan")), of_rests(("lamp", "fan"), (("lamp", "fan"), ())).rests)


def right_lot(value):
    return isinstance(value, tuple) and value in all_lots(THREE)


if __name__ == "__main__":
    unittest.main()
