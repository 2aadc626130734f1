"""Promises 4, 5 and 6: equal Rules, Rules within others, both together, and their common part."""

import unittest

from tests.cases import Case
from tests.plain import SIX, all_lots, base_of, both_ends, ends, every_rules, has_within, odd_values, some_bundles
from tests.plain import some_rules
from wakesothers.errors import OtherDevices
from wakesothers.rules import Rules

THREE = ("fan", "lamp", "pump")
SMALL = [("a",), ("b", "a"), ("pump", "fan", "lamp")]


def pairs_of_many_devices():
    """Pairs of Rules of the same four to six devices, some with one within the other."""
    pairs = []
    for seed in range(36):
        devices = ("f", "b", "d", "a", "e", "c")[: 4 + seed % 3]
        bundles = some_bundles(devices, 1 + seed % 7, seed)
        others = bundles[: seed % 4] + some_bundles(devices, 1 + seed % 5, 100 + seed)[: seed % 3]
        pairs.append((Rules(devices, bundles), Rules(devices, others)))
    return pairs


def pairs():
    found = [(one, other) for devices in SMALL[:2] for one in every_rules(devices) for other in every_rules(devices)]
    three = every_rules(SMALL[2])
    found += [(one, other) for at, one in enumerate(three) for other in three[at % 3 :: 3]]
    return found + pairs_of_many_devices()


class Promise4(Case):
    def test_there_are_as_many_different_rules_as_there_must_be(self):
        self.assertEqual([2, 7, 61], [len(every_rules(devices)) for devices in SMALL])

    def test_equal_are_those_of_the_same_ends(self):
        for one, other in pairs():
            same = ends(one.devices, one.bundles) == ends(other.devices, other.bundles)
            self.assertIs(same, one == other)
            self.assertIs(not same, one != other)

    def test_equal_though_of_other_bundles(self):
        one = Rules(THREE, ((("fan",), ("lamp",)), (("lamp",), ("pump",))))
        other = Rules(THREE, ((("lamp",), ("pump",)), (("fan",), ("lamp", "pump")), (("fan", "lamp"), ("pump",))))
        self.is_true(one == other)
        self.is_true(other == one)
        self.is_false(one != other)
        self.is_true(one == one)
        self.is_true(Rules(THREE) == Rules(("fan", "lamp", "pump"), ()))

    def test_not_equal_though_nearly(self):
        one = Rules(THREE, ((("fan",), ("lamp",)), (("lamp",), ("pump",))))
        self.is_false(one == Rules(THREE, ((("fan",), ("lamp",)),)))
        self.is_false(one == Rules(THREE, ((("fan",), ("lamp",)), (("fan", "lamp"), ("pump",)))))
        self.is_false(Rules(THREE) == Rules(THREE, ((("fan", "lamp"), ("pump",)),)))
        self.is_false(Rules(THREE) == Rules(THREE, (((), ("pump",)),)))

    def test_other_devices_are_not_equal(self):
        rules = Rules(("a", "b"))
        for devices in (("b", "a"), ("a",), ("a", "b", "c"), ("a", "c"), ("b",)):
            self.is_false(rules == Rules(devices))
            self.is_true(rules != Rules(devices))
        everything = ((), ("a",))
        self.is_false(Rules(("a",), (everything,)) == Rules(("a", "b"), (everything,)))
        turned = Rules(("b", "a"), (((), ("b", "a")),))
        self.is_false(turned == Rules(("a", "b"), (((), ("a", "b")),)))

    def test_equal_to_nothing_else(self):
        rules = Rules(("fan", "lamp"), ((("fan",), ("lamp",)),))
        others = [value for value in odd_values() if not isinstance(value, Rules)]
        others += [rules.bundles, rules.devices, rules.rests, (rules.devices, rules.bundles), (), len(rules), "Rules"]
        for value in others:
            self.is_false(rules == value)
            self.is_false(value == rules)
            self.is_true(rules != value)
        self.is_false(Rules(("a",)) == None)  # noqa: E711
        self.is_false(Rules(("a",)) == False)  # noqa: E712

    def test_is_within(self):
        for one, other in pairs():
            mine, yours = ends(one.devices, one.bundles), ends(other.devices, other.bundles)
            self.assertIs(all(has_within(yours[lot], mine[lot]) for lot in mine), one.is_within(other))
            self.assertIs(all(has_within(mine[lot], yours[lot]) for lot in mine), other.is_within(one))

    def test_is_within_goes_one_way(self):
        less = Rules(THREE, ((("fan", "lamp"), ("pump",)),))
        more = Rules(THREE, ((("fan",), ("pump",)),))
        self.alike([True, False], [less.is_within(more), more.is_within(other=less)])
        self.alike([True, True], [less.is_within(less), Rules(THREE).is_within(less)])
        self.is_false(less.is_within(Rules(THREE)))
        self.is_false(more.is_within(Rules(THREE, ((("fan",), ("lamp",)),))))

    def test_other_devices_are_refused(self):
        for devices, others in (
            (("a", "b"), ("b", "a")), (("a", "b"), ("a",)), (("a",), ("a", "b")), (("a",), ("b",)),
            (SIX, SIX[::-1]), (SIX, SIX[:5]), (THREE, ("fan", "pump", "lamp")), (THREE, ("fan", "lamp", "pumps")),
        ):
            one, other = Rules(devices), Rules(others, (((), others[:1]),))
            self.refused(OtherDevices, other, one.is_within, other)
            self.refused(OtherDevices, other, one.is_within, other=other)
            self.refused(OtherDevices, other, lambda: one | other)
            self.refused(OtherDevices, other, lambda: one & other)
            self.refused(OtherDevices, one, other.is_within, one)
            self.refused(OtherDevices, one, lambda: other | one)
            self.refused(OtherDevices, one, lambda: other & one)


class Promise5(Case):
    def test_both_together(self):
        for one, other in pairs():
            joined = one | other
            self.assertIsInstance(joined, Rules)
            self.alike(one.devices, joined.devices)
            wanted = base_of(one.devices, ends(one.devices, one.bundles + other.bundles))
            self.alike(wanted, joined.bundles)

    def test_the_common_part(self):
        for one, other in pairs():
            common = one & other
            self.assertIsInstance(common, Rules)
            self.alike(one.devices, common.devices)
            self.alike(base_of(one.devices, both_ends(one, other)), common.bundles)

    def test_the_ends_of_both(self):
        for one, other in pairs_of_many_devices():
            together, common = ends(one.devices, one.bundles + other.bundles), both_ends(one, other)
            for lot in all_lots(one.devices):
                self.alike(together[lot], (one | other).rest(lot))
                self.alike(common[lot], (one & other).rest(lot))

    def test_by_the_base_also_if_one_says_nothing_more(self):
        one = Rules(THREE, ((("fan", "lamp"), ("pump",)), (("fan",), ("lamp",)), (("fan",), ("lamp",))))
        base = ((("fan",), ("lamp", "pump")),)
        for joined in (one | one, one & one, one | Rules(THREE), Rules(THREE) | one):
            self.alike(base, joined.bundles)
            self.is_true(joined == one)
        self.alike((), (one & Rules(THREE)).bundles)
        self.alike((), (Rules(THREE) | Rules(THREE)).bundles)

    def test_needing_lots_have_within_them_all_that_comes_on_from_the_needing_ones_within(self):
        one = Rules(("a", "b", "c", "d"), ((("a",), ("b",)), (("a", "c"), ("d",))))
        self.alike(((("a",), ("b",)), (("a", "b", "c"), ("d",))), (one | one).bundles)
        self.alike(((("a",), ("b",)), (("a", "b", "c"), ("d",))), (one & one).bundles)

    def test_bundles_ascend_and_lots_are_in_the_sequence_of_the_devices(self):
        devices = ("pump", "fan", "lamp")
        one = Rules(devices, ((("lamp",), ("pump", "fan")),))
        other = Rules(devices, ((("fan",), ("lamp",)),))
        self.alike(((("fan",), ("pump", "lamp")), (("lamp",), ("pump", "fan"))), (one | other).bundles)
        third = Rules(devices, ((("pump",), ("fan",)), (("lamp",), ("fan",))))
        self.alike(((("lamp",), ("fan",)),), (one & third).bundles)

    def test_what_wakes_from_no_device(self):
        one = Rules(THREE, (((), ("fan",)),))
        other = Rules(THREE, ((("lamp",), ("fan",)), (("pump",), ("fan", "lamp"))))
        self.alike((((), ("fan",)), (("fan", "pump"), ("lamp",))), (one | other).bundles)
        self.alike(((("lamp",), ("fan",)), (("pump",), ("fan",))), (one & other).bundles)
        third = Rules(THREE, (((), ("pump",)), (("fan",), ("lamp",))))
        self.alike((((), THREE),), (one | third).bundles)
        self.alike((), (one & third).bundles)

    def test_one_device_and_six(self):
        off, on = Rules(("a",)), Rules(("a",), (((), ("a",)),))
        self.alike([(((), ("a",)),), ()], [(off | on).bundles, (off & on).bundles])
        chain = Rules(SIX, tuple(((SIX[at],), (SIX[at + 1],)) for at in range(5)))
        back = Rules(SIX, tuple(((SIX[at + 1],), (SIX[at],)) for at in range(5)))
        self.alike(
            tuple(((name,), tuple(other for other in SIX if other != name)) for name in SIX), (chain | back).bundles
        )
        between = [((SIX[at], SIX[to]), SIX[at + 1 : to]) for at in range(6) for to in range(at + 2, 6)]
        self.alike(tuple(between), (chain & back).bundles)

    def test_many_bundles(self):
        one, other = Rules(SIX, some_bundles(SIX, 64, 7)), Rules(SIX, some_bundles(SIX, 64, 8))
        self.alike(base_of(SIX, ends(SIX, one.bundles + other.bundles)), (one | other).bundles)
        self.alike(base_of(SIX, both_ends(one, other)), (one & other).bundles)
        halves = tuple((lot, (name,)) for lot in all_lots(SIX) if len(lot) == 3 for name in SIX if name not in lot)
        one, other = Rules(SIX, halves[:30]), Rules(SIX, halves[30:])
        self.alike(base_of(SIX, ends(SIX, halves)), (one | other).bundles)
        self.assertEqual(20, len(one | other))

    def test_both_are_left_as_they_were_and_tell_the_same_again(self):
        for one, other in pairs_of_many_devices()[:10]:
            before = (one.devices, one.bundles, one.rests, other.devices, other.bundles, other.rests)
            self.alike((one | other).bundles, (one | other).bundles)
            self.alike((one & other).bundles, (one & other).bundles)
            self.alike((one | other).bundles, (other | one).bundles)
            self.alike((one & other).bundles, (other & one).bundles)
            self.alike(before, (one.devices, one.bundles, one.rests, other.devices, other.bundles, other.rests))


class Promise6(Case):
    def check(self, all_rules, one, other):
        common, joined = one & other, one | other
        for rules in all_rules:
            self.assertIs(rules.is_within(one) and rules.is_within(other), rules.is_within(common))
            self.assertIs(one.is_within(rules) and other.is_within(rules), joined.is_within(rules))

    def test_all_rules_of_one_and_two_devices(self):
        for devices in SMALL[:2]:
            every = every_rules(devices)
            for one in every:
                for other in every:
                    self.check(every, one, other)

    def test_all_rules_of_three_devices(self):
        every = every_rules(SMALL[2])
        for at, one in enumerate(every):
            for other in every[at % 5 :: 5]:
                self.check(every, one, other)

    def test_some_rules_of_more_devices(self):
        pairs_of_many = pairs_of_many_devices()
        for devices in sorted({one.devices for one, other in pairs_of_many}):
            same = [pair for pair in pairs_of_many if pair[0].devices == devices]
            rules = [one for pair in same for one in pair] + [one & other for one, other in same]
            for one, other in same:
                self.check(rules, one, other)

    def test_rules_with_bundles_that_are_not_needed(self):
        for one in some_rules():
            self.is_true((one & one) == one)
            self.is_true((one | one) == one)
            self.is_true(one.is_within(one | Rules(one.devices)))
            self.is_true((one & Rules(one.devices)).is_within(one))


if __name__ == "__main__":
    unittest.main()
