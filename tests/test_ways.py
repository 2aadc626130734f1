"""Promises 3 (of way and shows_way), 7, 8 and 9: ways, and where Rules part."""

import unittest
from itertools import permutations, product

from tests.cases import Case
from tests.plain import SIX, all_lots, end, every_rules, nested, odd_values, some_bundles, some_rules
from tests.test_joining import pairs_of_many_devices
from tests.test_rules import wrong_lots
from wakesothers.errors import BadDevice, BadLot, OtherDevices
from wakesothers.rules import Rules
from wakesothers.ways import differ, shows_differ, shows_way, way

THREE = ("fan", "lamp", "pump")
FIRST = (("fan",), ("lamp",))
RULES = Rules(THREE, ((("fan", "lamp"), ("pump",)), FIRST))


def leads(rules, lot, device, numbers):
    """Whether right numbers of bundles, in this sequence, bring the device on."""
    on = set(lot)
    for number in numbers:
        first, others = rules.bundles[number]
        if not set(first) <= on:
            return False
        on |= set(others)
    return len(set(numbers)) == len(numbers) and device in on


def wrong_devices():
    """Values that are none of fan, lamp, pump."""
    found = [value for value in odd_values() if value != "fan"]
    return found + ["fox", "FAN", "Fan", "fan ", " fan", "fa", "fanlamp", "a", "x" * 4000, ("fan",), THREE, [], nested(1)]


def odd_results(rules, lot, device):
    """Values that are no results of way, whatever the rules, the lot and the device."""
    rest = rules.rest(lot)
    right = ("0", "1", "(0,)", "(1,)", "'fan'")
    wrong = [value for value in odd_values() if repr(value) not in right]
    found = odd_values() + [(), rest, device, (rest, "sleeps"), ((), "wakes"), (None, ()), (True, ()), (1, rest)]
    for word in ("wakes", "sleeps"):
        found += [(word, value) for value in wrong] + [(word, (value,)) for value in wrong]
        found += [(word,), [word, rest], [word, ()], word, {word: rest}, {word: (), "a": 1}, (word, list(rest))]
        found += [(word, (), ()), (word, rest, rest), (word, (), None), (word, rest, ()), ((word,), rest), (word, word)]
        found += [(word.upper(), rest), (word.upper(), ()), (word + " ", ()), (word + " ", rest)]
    return found + [("stays", rest), ("stirs", ()), ("alike",), ("sleeps", rest + rest + ("fan",))]


class Promise3OfWays(Case):
    def test_no_lot(self):
        for value in wrong_lots():
            self.refused(BadLot, value, way, RULES, value, "fan")
            self.refused(BadLot, value, way, device="fan", rules=RULES, lot=value)
            self.refused(BadLot, value, shows_way, RULES, value, "fan", ("sleeps", ()))
            self.refused(BadLot, value, shows_way, value=("wakes", ()), device="fan", rules=RULES, lot=value)

    def test_no_device(self):
        for value in wrong_devices():
            for lot in ((), ("fan",), THREE):
                self.refused(BadDevice, value, way, RULES, lot, value)
                self.refused(BadDevice, value, way, RULES, device=value, lot=lot)
                self.refused(BadDevice, value, shows_way, RULES, lot, value, ("wakes", ()))
                self.refused(BadDevice, value, shows_way, RULES, lot, value, ("sleeps", RULES.rest(lot)))
                self.refused(BadDevice, value, shows_way, RULES, lot, device=value, value=None)

    def test_a_wrong_lot_comes_ahead_of_a_wrong_device(self):
        for lot in (["fan"], ("lamp", "fan"), None, ("fox",), "fan", True):
            for device in ("fox", None, 1, ["fan"], lot):
                self.refused(BadLot, lot, way, RULES, lot, device)
                self.refused(BadLot, lot, shows_way, RULES, lot, device, None)

    def test_all_lots_and_devices_are_taken(self):
        for devices in (("a",), ("z", "abcdefgh"), SIX):
            for lot, device in product(all_lots(devices), devices):
                told = way(Rules(devices), lot, device)
                self.alike(("wakes", ()) if device in lot else ("sleeps", lot), told)


class Promise7(Case):
    def check(self, rules):
        for lot in all_lots(rules.devices):
            rest = end(rules.devices, rules.bundles, lot)
            for device in rules.devices:
                told = way(rules, lot, device)
                if device in rest:
                    self.assert_wakes(rules, lot, device, told)
                else:
                    self.alike(("sleeps", rest), told)
                self.is_true(shows_way(rules, lot, device, told))
                self.alike(told, way(rules=rules, lot=tuple(list(lot)), device=device))

    def assert_wakes(self, rules, lot, device, told):
        self.assertIs(tuple, told.__class__)
        self.assertEqual(2, len(told))
        self.alike("wakes", told[0])
        self.assertIs(tuple, told[1].__class__)
        for number in told[1]:
            self.assertIs(int, number.__class__)
            self.assertIn(number, range(len(rules)))
        self.assertTrue(leads(rules, lot, device, told[1]), f"{rules.bundles} {lot} {device} {told}")

    def test_many_rules(self):
        for rules in some_rules() + every_rules(("b", "a")) + every_rules(("c", "a", "b"))[::3]:
            self.check(rules)

    def test_one_device_and_no_bundles(self):
        self.alike(("sleeps", ()), way(Rules(("a",)), (), "a"))
        self.alike(("wakes", (0,)), way(Rules(("a",), (((), ("a",)),)), (), "a"))
        self.check(Rules(("a",), (((), ("a",)),) * 3))
        self.check(Rules(SIX))

    def test_chains(self):
        chain = tuple(((SIX[at],), (SIX[at + 1],)) for at in range(5))
        self.alike(("wakes", (0, 1, 2, 3, 4)), way(Rules(SIX, chain), ("a",), "f"))
        self.alike(("wakes", (4, 3, 2, 1, 0)), way(Rules(SIX, chain[::-1]), ("a",), "f"))
        self.alike(("sleeps", ("b", "c", "d", "e", "f")), way(Rules(SIX, chain[::-1]), ("b",), "a"))
        self.check(Rules(SIX, chain[2:] + chain[:2]))

    def test_sixty_four_bundles(self):
        self.check(Rules(SIX, some_bundles(SIX, 64, 3)))
        self.check(Rules(SIX, (((), ("b",)),) * 62 + ((("c",), ("d",)), (("b",), ("c",)))))

    def test_the_rules_are_left_as_they_were(self):
        rules = Rules(THREE, RULES.bundles)
        way(rules, ("fan",), "pump")
        shows_way(rules, ("fan",), "pump", ("wakes", (1, 0)))
        self.alike((THREE, RULES.bundles, RULES.rests), (rules.devices, rules.bundles, rules.rests))


class Promise8(Case):
    def shown(self, wanted, rules, lot, device, value):
        self.assertIs(wanted, shows_way(rules, lot, device, value), f"{rules.bundles} {lot} {device} {value}")

    def test_all_sequences_of_numbers(self):
        some = (FIRST, (("lamp",), ("pump",)), ((), ("lamp",)), (("fan", "pump"), ("lamp",)), (("pump",), ("fan",)))
        for bundles in permutations(some, 3):
            rules = Rules(THREE, bundles)
            for lot, device in product(((), ("fan",), ("lamp",), ("fan", "pump")), THREE):
                for many in range(5):
                    for numbers in product(range(3), repeat=many):
                        wanted = leads(rules, lot, device, numbers)
                        self.shown(wanted, rules, lot, device, ("wakes", numbers))

    def test_numbers_that_are_not_needed(self):
        rules = Rules(THREE, (FIRST, FIRST, (("lamp",), ("pump",)), ((), ("pump",)), (("pump",), ("fan", "lamp"))))
        for numbers in ((0,), (0, 1), (1, 0), (3, 0, 2), (0, 2, 1, 3, 4), (3, 4), (3, 4, 1)):
            self.shown(True, rules, ("fan",), "lamp", ("wakes", numbers))
        for numbers in ((), (0,), (3,), (1, 0), (0, 1, 2, 3, 4)):
            self.shown(True, rules, ("fan",), "fan", ("wakes", numbers))
        for numbers in ((2,), (0,), (4,), (3, 2)):
            self.shown(False, rules, (), "pump", ("wakes", numbers))
        self.shown(True, rules, THREE, "pump", ("wakes", (4, 3, 2, 1, 0)))

    def test_no_number_may_be_wrong_also_where_it_is_not_needed(self):
        rules = Rules(THREE, (FIRST, (("pump",), ("fan",))))
        self.shown(True, rules, ("fan",), "lamp", ("wakes", (0,)))
        for numbers in ((0, 1), (1, 0), (0, 0), (0, 2), (0, -1), (-2,), (2, 0), (0, 10), (-1, 0), (0, None), (0, "1")):
            self.shown(False, rules, ("fan",), "lamp", ("wakes", numbers))
            self.shown(False, rules, ("fan",), "fan", ("wakes", numbers))
        self.shown(False, rules, ("lamp",), "lamp", ("wakes", (0,)))
        self.shown(False, rules, THREE, "lamp", ("wakes", (0, 0)))
        self.shown(False, rules, THREE, "lamp", ("wakes", (2,)))
        self.shown(True, rules, THREE, "lamp", ("wakes", (1, 0)))

    def test_true_is_not_one(self):
        self.shown(True, RULES, ("fan",), "pump", ("wakes", (1, 0)))
        for numbers in ((True, 0), (1, False), (True, False), [1, 0], [True, False], ([1, 0],), ((1, 0),), (1, 0, True)):
            self.shown(False, RULES, ("fan",), "pump", ("wakes", numbers))
        for numbers in ((True,), (False,), True, False, 1, [1], {1: True}, ((1,),), (1, True), (True, 1)):
            self.shown(False, RULES, ("fan",), "lamp", ("wakes", numbers))
            self.shown(False, RULES, THREE, "lamp", ("wakes", numbers))
        self.shown(True, RULES, ("fan",), "lamp", ("wakes", (1,)))
        self.shown(True, RULES, THREE, "lamp", ("wakes", (1,)))
        self.shown(True, RULES, THREE, "lamp", ("wakes", (0,)))

    def test_what_sleeps(self):
        for rules in some_rules()[::4] + [Rules(("a",)), Rules(SIX)]:
            for lot, device in product(all_lots(rules.devices), rules.devices):
                rest = end(rules.devices, rules.bundles, lot)
                self.shown(device not in rest, rules, lot, device, ("sleeps", rest))
                self.shown(False, rules, lot, device, ("sleeps", list(rest)))
                self.shown(False, rules, lot, device, ["sleeps", rest])
                self.shown(False, rules, lot, device, ("sleeps", rest[::-1] + rest[:1] + ("x",)))
                for other in all_lots(rules.devices):
                    if other != rest:
                        self.shown(False, rules, lot, device, ("sleeps", other))

    def test_what_sleeps_does_not_wake(self):
        for numbers in ((), (0,), (1,), (1, 0), (0, 1)):
            self.shown(False, RULES, ("lamp",), "fan", ("wakes", numbers))
            self.shown(False, RULES, (), "pump", ("wakes", numbers))
        self.shown(False, RULES, ("pump",), "fan", ("wakes", ("pump",)))
        self.shown(False, RULES, ("fan",), "pump", ("sleeps", (1, 0)))

    def test_any_value(self):
        for rules in (RULES, Rules(THREE), Rules(THREE, (((), THREE),))):
            for lot, device in product(((), ("fan",), ("lamp", "pump"), THREE), THREE):
                for value in odd_results(rules, lot, device):
                    self.shown(False, rules, lot, device, value)

    def test_what_others_made_and_arguments_by_name(self):
        self.is_true(shows_way(value=("wakes", tuple([1, 0])), device="pump", lot=("fan",), rules=RULES))
        self.is_true(shows_way(RULES, ("lamp", "pump"), "fan", value=("sleeps", tuple(["lamp", "pump"]))))

    def test_sixty_four_bundles(self):
        rules = Rules(SIX, (((), ("a",)),) * 64)
        self.shown(True, rules, (), "a", ("wakes", tuple(range(64))))
        self.shown(True, rules, (), "a", ("wakes", tuple(range(64))[::-1]))
        self.shown(True, rules, (), "a", ("wakes", (63,)))
        self.shown(False, rules, (), "a", ("wakes", (64,)))
        self.shown(False, rules, (), "a", ("wakes", tuple(range(65))))
        self.shown(False, rules, (), "a", ("wakes", tuple(range(64)) + (0,)))
        self.shown(False, rules, (), "a", ("wakes", ()))


class Promise9(Case):
    def pairs(self):
        three = every_rules(("c", "a", "b"))
        found = [(one, other) for one in three[::2] for other in three[::3]]
        two = every_rules(("b", "a"))
        return found + [(one, other) for one in two for other in two] + pairs_of_many_devices()

    def test_differ(self):
        for one, other in self.pairs():
            told = differ(one, other)
            if one == other:
                self.alike(("alike",), told)
            else:
                self.assertIs(tuple, told.__class__)
                word, lot, device = told
                self.alike("apart", word)
                self.assertIn(lot, all_lots(one.devices))
                self.assertIn(device, one.devices)
                mine, yours = end(one.devices, one.bundles, lot), end(other.devices, other.bundles, lot)
                self.assertNotEqual(device in mine, device in yours)
            self.is_true(shows_differ(one, other, told))
            self.is_true(shows_differ(one, other, differ(one=one, other=other)))
            self.alike(told, differ(Rules(one.devices, one.bundles), Rules(other.devices, other.bundles)))

    def test_alike_just_if_equal(self):
        same = Rules(THREE, (FIRST, (("fan",), ("pump",)), FIRST))
        self.alike(("alike",), differ(RULES, same))
        self.is_true(shows_differ(RULES, same, ("alike",)))
        self.alike(("alike",), differ(RULES, RULES))
        self.alike(("alike",), differ(Rules(("a",)), Rules(("a",))))
        self.alike(("apart", (), "a"), differ(Rules(("a",)), Rules(("a",), (((), ("a",)),))))
        self.alike(("apart", (), "a"), differ(Rules(("a",), (((), ("a",)),)), Rules(("a",))))
        self.is_false(shows_differ(RULES, Rules(THREE), ("alike",)))
        self.is_false(shows_differ(Rules(THREE), RULES, ("alike",)))

    def test_only_the_lot_of_all_but_one_parts_them(self):
        one, other = Rules(SIX), Rules(SIX, ((SIX[:5], ("f",)),))
        self.alike(("apart", SIX[:5], "f"), differ(one, other))
        self.alike(("apart", SIX[:5], "f"), differ(other, one))

    def test_shows_differ_all_lots_and_devices(self):
        for one, other in self.pairs()[::5] + [(RULES, RULES), (Rules(SIX), Rules(SIX, ((("c",), ("a",)),)))]:
            for lot, device in product(all_lots(one.devices), one.devices):
                mine, yours = end(one.devices, one.bundles, lot), end(other.devices, other.bundles, lot)
                wanted = (device in mine) != (device in yours)
                self.assertIs(wanted, shows_differ(one, other, ("apart", lot, device)))
                self.assertIs(wanted, shows_differ(value=("apart", lot, device), other=one, one=other))

    def test_shows_differ_any_value(self):
        other = Rules(THREE, ((("fan",), ("pump",)),))
        self.is_true(shows_differ(RULES, other, ("apart", ("fan",), "lamp")))
        wrong = odd_values() + wrong_devices() + wrong_lots() + [
            (), ["alike"], "alike", ("alike", ()), ("alike", None), (("alike",),), ("ALIKE",), {"alike": True}, ("apart",),
            ["apart", ("fan",), "lamp"], ("apart", ["fan"], "lamp"), ("apart", ("fan",), ["lamp"]), ("apart", "fan", "lamp"),
            ("apart", ("fan",), ("lamp",)), ("apart", ("fan",)), ("apart", ("fan",), "lamp", "pump"), (("fan",), "lamp"),
            ("APART", ("fan",), "lamp"), ("alike", ("fan",), "lamp"), (None, ("fan",), "lamp"), ("apart", "lamp", ("fan",)),
            ("apart", ("pump", "fan"), "lamp"), ("apart", ("fan", "fan"), "lamp"), ("apart", ("fan",), "LAMP"),
            ("apart", ("fan", "fox"), "lamp"), ("apart", ("fan",), "fox"), (True, ("fan",), "lamp"), ("apart", (), "lamp"),
            ("apart", ("fan",), "fan"), ("apart", ("fan",), "pump"), ("apart", ("lamp",), "lamp"), ("apart", THREE, "lamp"),
        ]
        wrong += [("apart", lot, "lamp") for lot in wrong_lots()]
        wrong += [("apart", ("fan",), device) for device in wrong_devices()]
        for value in wrong:
            self.is_false(shows_differ(RULES, other, value), value)
            self.is_false(shows_differ(other, RULES, value), value)
            self.is_false(shows_differ(RULES, RULES, value), value)
        self.is_false(shows_differ(RULES, RULES, ("apart", ("fan",), "lamp")))
        self.is_false(shows_differ(RULES, other, ("alike",)))

    def test_other_devices(self):
        for devices, others in (
            (("a", "b"), ("b", "a")), (("a", "b"), ("a",)), (("a",), ("a", "b")), (("a",), ("b",)), (SIX, SIX[::-1])
        ):
            one, other = Rules(devices), Rules(others)
            self.refused(OtherDevices, other, differ, one, other)
            self.refused(OtherDevices, one, differ, other, one)
            self.refused(OtherDevices, other, differ, other=other, one=one)
            for value in (("alike",), ("apart", (), "a"), None):
                self.refused(OtherDevices, other, shows_differ, one, other, value)
                self.refused(OtherDevices, one, shows_differ, other, one, value)

    def test_both_are_left_as_they_were(self):
        one, other = Rules(THREE, RULES.bundles), Rules(THREE, (FIRST,))
        differ(one, other)
        shows_differ(one, other, ("apart", ("fan",), "pump"))
        self.alike((RULES.bundles, RULES.rests), (one.bundles, one.rests))
        self.alike((FIRST,), other.bundles)


if __name__ == "__main__":
    unittest.main()
