"""What names, devices, lots and bundles are; each value may be anything at all."""

from wakesothers.errors import BadDevice, BadLot, OtherDevices

LETTERS = "abcdefghijklmnopqrstuvwxyz"
MOST_LETTERS = 8
MOST_DEVICES = 6
MOST_BUNDLES = 64
MOST_RESTS = 64
MOST_PRICE = 9


def is_integer(value):
    return isinstance(value, int) and not isinstance(value, bool)


def is_number(value, many):
    """Whether the value is the number of one of so many things."""
    return is_integer(value) and 0 <= value < many


def is_price(value):
    return is_integer(value) and 1 <= value <= MOST_PRICE


def has_form(value, word, many):
    """Whether the value is a tuple of so many values that begins with the word."""
    return isinstance(value, tuple) and len(value) == many and value[0] == word


def has_all(on, lot):
    return all([name in on for name in lot])


def is_name(value):
    if not isinstance(value, str) or not 1 <= len(value) <= MOST_LETTERS:
        return False
    return all([letter in LETTERS for letter in value])


def are_devices(value):
    if not isinstance(value, tuple) or not 1 <= len(value) <= MOST_DEVICES:
        return False
    # Only names go into the set: it cannot take each value.
    return all([is_name(name) for name in value]) and len(set(value)) == len(value)


def is_lot(devices, value):
    """A tuple is a lot just if it is those of the devices that are in it."""
    return isinstance(value, tuple) and value == tuple([name for name in devices if name in value])


def is_bundle(devices, value):
    if not isinstance(value, tuple) or len(value) != 2:
        return False
    lot, others = value
    if not is_lot(devices, lot) or not is_lot(devices, others):
        return False
    return others != () and not any([name in lot for name in others])


def are_bundles(devices, value):
    if not isinstance(value, tuple) or len(value) > MOST_BUNDLES:
        return False
    return all([is_bundle(devices, bundle) for bundle in value])


def are_rests(devices, value):
    if not isinstance(value, tuple) or len(value) > MOST_RESTS:
        return False
    return all([is_lot(devices, lot) for lot in value])


def need_lot(devices, value):
    if not is_lot(devices, value):
        raise BadLot(value)


def need_device(devices, value):
    if value not in devices:
        raise BadDevice(value)


def need_same_devices(one, other):
    if one.devices != other.devices:
        raise OtherDevices(other)
