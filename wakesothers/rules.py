"""Rules: bundles of devices that wake others."""

from wakesothers.checks import are_bundles, are_devices, need_lot, need_same_devices
from wakesothers.errors import BadBundles, BadDevices
from wakesothers.masks import base_bundles, common_ends, ends_of, lot_of, mask_of, rests_of


class Rules:
    """Bundles (lot, others): if all of the lot are on, all of the others come on."""

    def __init__(self, devices, bundles=()):
        if not are_devices(devices):
            raise BadDevices(devices)
        if not are_bundles(devices, bundles):
            raise BadBundles(bundles)
        self.devices = devices
        self.bundles = bundles
        self._ends = ends_of(devices, bundles)
        self.rests = rests_of(devices, self._ends)

    def rest(self, lot):
        """The lot that is on in the end if at first just this one is on."""
        need_lot(self.devices, lot)
        return lot_of(self.devices, self._ends[mask_of(self.devices, lot)])

    def stays(self, lot):
        """Whether nothing comes on beside the lot."""
        return self.rest(lot) == lot

    def is_within(self, other):
        """Whether from each lot all that comes on by these comes on by the other."""
        need_same_devices(self, other)
        # A lot comes to the least lot that stays and has it within: so it
        # comes less far by these just if what stays by the other stays here.
        return all([lot in self.rests for lot in other.rests])

    def __len__(self):
        return len(self.bundles)

    def __eq__(self, other):
        # A lot comes to the least lot that stays and has it within: so
        # equal rests are equal ends.
        return isinstance(other, Rules) and self.devices == other.devices and self.rests == other.rests

    def __or__(self, other):
        need_same_devices(self, other)
        return rules_by(self.devices, ends_of(self.devices, self.bundles + other.bundles))

    def __and__(self, other):
        need_same_devices(self, other)
        return rules_by(self.devices, common_ends(self._ends, other._ends))


def rules_by(devices, ends):
    """The Rules of these ends, by their base."""
    return Rules(devices, base_bundles(devices, ends))
