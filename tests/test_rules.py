"""Promises 1, 2 and 3 (of rest and stays): Rules, and what they refuse."""

import unittest

from tests.cases import Case
from tests.plain import SIX, all_lots, end, nested, odd_values, some_bundles, some_rules
from wakesothers.errors import BadBundles, BadDevices, BadLot
from wakesothers.rules import Rules

THREE = ("fan", "lamp", "pump")
ONE_BUNDLE = (("fan",), ("lamp",))


class Promise1(Case):
    def test_properties_are_what_was_handed_in(self):
        bundles = ((("fan", "lamp"), ("pump",)), ONE_BUNDLE, ONE_BUNDLE)
        rules = Rules(THREE, bundles)
        self.alike(THREE, rules.devices)
        self.alike(bundles, rules.bundles)
        self.alike(3, len(rules))

    def test_arguments_by_name(self):
        rules = Rules(bundles=(ONE_BUNDLE,), devices=THREE)
        self.alike((THREE, (ONE_BUNDLE,)), (rules.devices, rules.bundles))
        self.alike(("fan", "lamp"), rules.rest(lot=("fan",)))
        self.is_false(rules.stays(lot=("fan",)))

    def test_no_bundles(self):
        for rules in (Rules(THREE), Rules(THREE, ())):
            self.alike((), rules.bundles)
            self.alike(0, len(rules))
            self.alike(tuple(sorted(all_lots(THREE))), rules.rests)
            for lot in all_lots(THREE):
                self.alike(lot, rules.rest(lot))
                self.is_true(rules.stays(lot))

    def test_one_device(self):
        self.alike(((), ("a",)), Rules(("a",)).rests)
        rules = Rules(("a",), (((), ("a",)),))
        self.alike((("a",),), rules.rests)
        self.alike([("a",), ("a",)], [rules.rest(()), rules.rest(("a",))])
        self.alike([False, True], [rules.stays(()), rules.stays(("a",))])

    def test_a_bundle_needs_all_of_its_lot_and_brings_all_of_its_others(self):
        rules = Rules(("a", "b", "c", "d"), ((("a", "b"), ("c", "d")),))
        self.alike(("a",), rules.rest(("a",)))
        self.alike(("b", "d"), rules.rest(("b", "d")))
        self.alike(("a", "b", "c", "d"), rules.rest(("a", "b")))
        self.alike(("a", "b", "c", "d"), rules.rest(("a", "b", "c")))
        self.is_false(rules.stays(("a", "b", "d")))
        self.is_true(rules.stays(("a", "c", "d")))
        self.is_true(rules.stays(("a", "b", "c", "d")))

    def test_bundles_in_each_sequence(self):
        chain = tuple(((SIX[at],), (SIX[at + 1],)) for at in range(5))
        for bundles in (chain, chain[::-1], chain[1::2] + chain[::2]):
            rules = Rules(SIX, bundles)
            self.alike(SIX, rules.rest(("a",)))
            self.alike(("c", "d", "e", "f"), rules.rest(("c",)))
            self.alike(tuple(SIX[at:] for at in range(7)), tuple(sorted(rules.rests, key=len, reverse=True)))

    def test_what_wakes_from_no_device(self):
        rules = Rules(THREE, ((("lamp",), ("pump",)), ((), ("lamp",))))
        self.alike(("lamp", "pump"), rules.rest(()))
        self.alike(THREE, rules.rest(("fan",)))
        self.alike((("fan", "lamp", "pump"), ("lamp", "pump")), rules.rests)

    def test_lots_are_in_the_sequence_of_the_devices_and_rests_ascending(self):
        rules = Rules(("pump", "fan", "lamp"), ((("lamp",), ("fan",)),))
        self.alike(("fan", "lamp"), rules.rest(("lamp",)))
        self.alike(("pump", "fan", "lamp"), rules.rest(("pump", "lamp")))
        self.alike((), rules.rests[0])
        self.alike(
            ((), ("fan",), ("fan", "lamp"), ("pump",), ("pump", "fan"), ("pump", "fan", "lamp")), rules.rests
        )

    def test_a_bundle_more_than_once(self):
        rules = Rules(THREE, (ONE_BUNDLE,) * 64)
        self.alike(64, len(rules))
        self.alike((ONE_BUNDLE,) * 64, rules.bundles)
        self.alike(("fan", "lamp"), rules.rest(("fan",)))
        self.is_true(rules == Rules(THREE, (ONE_BUNDLE,)))

    def test_sixty_four_bundles_of_six_devices(self):
        for seed in range(3):
            bundles = some_bundles(SIX, 64, seed)
            self.assert_ends(Rules(SIX, bundles), SIX, bundles)
        heads = (((), ("b",)),) + (((), ("c",)),) * 62
        last = ((("b",), ("a",)),)
        self.alike(("a", "b", "c"), Rules(SIX, heads + last).rest(()))

    def test_all_lots_of_many_rules(self):
        for rules in some_rules():
            self.assert_ends(rules, rules.devices, rules.bundles)

    def assert_ends(self, rules, devices, bundles):
        lots = all_lots(devices)
        for lot in lots:
            rest = end(devices, bundles, lot)
            self.alike(rest, rules.rest(lot))
            self.alike(rest == lot, rules.stays(lot))
        self.alike(tuple(sorted(lot for lot in lots if end(devices, bundles, lot) == lot)), rules.rests)

    def test_equal_calls_return_equal_results(self):
        for rules in some_rules()[:12]:
            again = Rules(tuple(list(rules.devices)), tuple(list(rules.bundles)))
            self.is_true(rules == again)
            for lot in all_lots(rules.devices):
                self.alike(rules.rest(lot), rules.rest(tuple(list(lot))))
                self.alike(rules.rest(lot), again.rest(lot))
            self.alike(rules.rests, again.rests)


class Promise2(Case):
    def test_right_devices(self):
        for devices in (("a",), ("z",), ("abcdefgh",), SIX, ("zzzzzzzz", "a", "az"), ("b", "a"), ("stays", "wakes")):
            self.alike(devices, Rules(devices).devices)
        for letter in "abcdefghijklmnopqrstuvwxyz":
            self.alike((letter,), Rules((letter,)).devices)

    def test_wrong_devices(self):
        wrong = odd_values() + [
            (), SIX + ("g",), ("a", "a"), ("a", "b", "a"), SIX[:5] + ("a",), list(SIX), ["a"], "a", "abc", {"a": "b"},
            ("abcdefghi",), ("a", "abcdefghi"), ("A",), ("fanA",), ("FAN", "lamp"), ("a", ""), ("a b",), (" a",),
            ("a ",), ("a1",), ("1",), ("a_b",), ("a-b",), ("a\n",), ("{",), ("`",), ("a.",), ("x" * 4000,),
            ("a", None), ("a", True), ("a", 1), (0, "a"), ("a", ["b"]), ("a", ("b",)), (("a", "b"),), (("a",), ("b",)),
            ("a", {}), ("a", Rules(("a",))), Rules(("a",)), ("a", nested("b")), tuple("a" for _ in range(1000)),
        ]
        for value in wrong:
            self.refused(BadDevices, value, Rules, value)
            self.refused(BadDevices, value, Rules, devices=value, bundles=())

    def test_wrong_devices_come_ahead_of_wrong_bundles(self):
        for value in (["a"], (), ("a", "a"), None):
            self.refused(BadDevices, value, Rules, value, None)
            self.refused(BadDevices, value, Rules, value, [((), ("a",))])

    def test_right_bundles(self):
        every = tuple((lot, (name,)) for lot in all_lots(SIX) for name in SIX if name not in lot)
        for at in range(0, len(every), 64):
            self.alike(every[at : at + 64], Rules(SIX, every[at : at + 64]).bundles)
        for bundles in ((), (((), THREE),), ((("fan", "lamp"), ("pump",)),), ((("pump",), ("fan", "lamp")),)):
            self.alike(bundles, Rules(THREE, bundles).bundles)

    def test_sixty_five_bundles(self):
        bundles = some_bundles(SIX, 65, 1)
        self.refused(BadBundles, bundles, Rules, SIX, bundles)
        self.alike(64, len(Rules(SIX, bundles[:64])))
        once = (ONE_BUNDLE,) * 65
        self.refused(BadBundles, once, Rules, THREE, once)

    def test_wrong_bundles(self):
        wrong = [
            (("fan",), ()), ((), ()), (THREE, ()),
            (("lamp", "fan"), ("pump",)), (("fan",), ("pump", "lamp")),
            (("fan", "fan"), ("pump",)), (("fan",), ("pump", "pump")), (("fan",), ("lamp", "pump", "lamp")),
            (("fox",), ("lamp",)), (("fan",), ("fox",)), (("fan", "fox"), ("lamp",)), (("fan",), ("lamp", "fox")),
            (("fan",), ("fan",)), (("fan",), ("fan", "lamp")), (("fan", "lamp"), ("lamp", "pump")),
            (("lamp",), ("fan", "lamp")), (("pump",), THREE),
            (["fan"], ("lamp",)), (("fan",), ["lamp"]), [("fan",), ("lamp",)], ([], ("lamp",)), (("fan",), []),
            ("fan", ("lamp",)), (("fan",), "lamp"), ("", ("lamp",)), (("fan",), ""), (("fan",), None), (None, ("fan",)),
            (("fan",),), (("fan",), ("lamp",), ("pump",)), ((), ("lamp",), ()), (("fan",), ("lamp",), None),
            (("FAN",), ("lamp",)), (("fan",), ("LAMP",)), (("fan ",), ("lamp",)), (("fan",), ("",)),
            ((True,), ("lamp",)), (("fan",), (1,)), ((0,), (1,)), (("fan",), (None,)), (("fan",), (["lamp"],)),
            (("fan",), (("lamp",),)), ((("fan",),), ("lamp",)), (("fan",), {"lamp": True}), ({"fan": 1}, ("lamp",)),
            ({}, ("lamp",)), (("fan",), {}), {("fan",): 1, ("lamp",): 2}, (Rules(THREE), ("lamp",)),
            (("fan",), Rules(THREE)), (("fan",), (Rules(THREE),)), "fl", 1, True, None, nested(("fan",)),
            (("fan",), nested("lamp")),
        ]
        for bundle in wrong:
            for value in ((bundle,), (ONE_BUNDLE, bundle), (bundle, ONE_BUNDLE), (ONE_BUNDLE, bundle, ONE_BUNDLE)):
                self.refused(BadBundles, value, Rules, THREE, value)

    def test_what_is_no_tuple_of_bundles(self):
        for value in odd_values() + [ONE_BUNDLE, [ONE_BUNDLE], {ONE_BUNDLE: 1}, THREE, ((ONE_BUNDLE,),), ("ab",)]:
            self.refused(BadBundles, value, Rules, ("fan", "lamp"), value)
            self.refused(BadBundles, value, Rules, devices=("fan", "lamp"), bundles=value)

    def test_names_of_devices_in_a_string_are_no_lot(self):
        for bundle in (("a", "b"), (("a",), "b"), ("a", ("b",)), "ab"):
            value = (bundle,)
            self.refused(BadBundles, value, Rules, ("a", "b"), value)

    def test_bundles_of_other_devices(self):
        bundles = ((("a",), ("b",)),)
        self.refused(BadBundles, bundles, Rules, ("a", "c"), bundles)
        bundles = ((("a", "b"), ("c",)),)
        self.refused(BadBundles, bundles, Rules, ("b", "a", "c"), bundles)


class Promise3OfRules(Case):
    def test_each_lot_is_taken(self):
        for devices in (("a",), ("pump", "fan", "lamp"), ("abcdefgh", "z"), SIX):
            rules = Rules(devices)
            for lot in all_lots(devices):
                self.alike(lot, rules.rest(lot))
                self.is_true(rules.stays(lot))

    def test_all_else_is_refused(self):
        rules = Rules(THREE, (ONE_BUNDLE,))
        for value in wrong_lots():
            self.refused(BadLot, value, rules.rest, value)
            self.refused(BadLot, value, rules.stays, value)
            self.refused(BadLot, value, rules.rest, lot=value)
            self.refused(BadLot, value, rules.stays, lot=value)

    def test_lots_of_other_sequences(self):
        rules = Rules(("pump", "fan", "lamp"))
        for value in (("fan", "pump"), THREE, ("lamp", "pump"), ("lamp", "fan"), ("pump", "lamp", "fan")):
            self.refused(BadLot, value, rules.rest, value)
        self.alike(("pump", "lamp"), rules.rest(("pump", "lamp")))

    def test_after_what_was_refused_all_is_as_before(self):
        rules = Rules(THREE, (ONE_BUNDLE,))
        self.refused(BadLot, None, rules.rest, None)
        self.alike(("fan", "lamp"), rules.rest(("fan",)))
        self.alike((ONE_BUNDLE,), rules.bundles)


def wrong_lots():
    """Values that are no lots of fan, lamp, pump."""
    return odd_values() + [
        ("lamp", "fan"), ("pump", "fan"), ("pump", "lamp", "fan"), ("fan", "pump", "lamp"), ("fan", "fan"),
        ("fan", "lamp", "fan"), THREE + ("fan",), THREE + ("pump",), ("fox",), ("fan", "fox"), ("fox", "fan"), ("FAN",),
        ("fan", ""), ("fan", "lamp "), ("fa",), ("f", "a", "n"), list(THREE), ["fan", "lamp"], "pump", ("fan", None),
        ("fan", True), ("fan", 1), (0, 1), ("fan", ["lamp"]), ("fan", ("lamp",)), (THREE,), ("fan", Rules(THREE)),
        Rules(THREE), {"fan": 1, "lamp": 2}, (None, "fan"), ("x" * 4000,),
    ]


if __name__ == "__main__":
    unittest.main()
