"""By which bundles a device comes on, and where two Rules part."""

from wakesothers.checks import has_all, has_form, is_lot, is_number, need_device, need_same_devices


def way(rules, lot, device):
    """("wakes", numbers of bundles) by which the device comes on, or ("sleeps", rest)."""
    rest = rules.rest(lot)
    need_device(rules.devices, device)
    if device in rest:
        return ("wakes", _numbers(rules, lot, device))
    return ("sleeps", rest)


def shows_way(rules, lot, device, value):
    """Whether the value is a result of way, whoever made it."""
    rest = rules.rest(lot)
    need_device(rules.devices, device)
    if device not in rest:
        return value == ("sleeps", rest)
    if not has_form(value, "wakes", 2):
        return False
    return _are_numbers(rules, value[1]) and _leads(rules, lot, device, value[1])


def differ(one, other):
    """("alike",) if both are equal, or ("apart", lot, device on by just one of both)."""
    need_same_devices(one, other)
    # If they are not equal, some lot stays by just one of both.
    for lot in one.rests + other.rests:
        apart = _apart(one, other, lot)
        if apart:
            return ("apart", lot, apart[0])
    return ("alike",)


def shows_differ(one, other, value):
    """Whether the value is a result of differ, whoever made it."""
    need_same_devices(one, other)
    if one == other:
        return value == ("alike",)
    if not has_form(value, "apart", 3):
        return False
    return is_lot(one.devices, value[1]) and value[2] in _apart(one, other, value[1])


def _numbers(rules, lot, device):
    """Bundles that bring more on, in sequence, until the device is on; it must come on."""
    on = list(lot)
    numbers = []
    while device not in on:
        number = _waking(rules, on)[0]
        numbers.append(number)
        on.extend(rules.bundles[number][1])
    return tuple(numbers)


def _waking(rules, on):
    """The numbers of the bundles that bring more on."""
    return [
        number
        for number, (lot, others) in enumerate(rules.bundles)
        if has_all(on, lot) and not has_all(on, others)
    ]


def _are_numbers(rules, value):
    if not isinstance(value, tuple):
        return False
    # Only integers go into the set: it cannot take each value.
    right = all([is_number(number, len(rules)) for number in value])
    return right and len(set(value)) == len(value)


def _leads(rules, lot, device, numbers):
    """Whether each bundle can bring its others on, in this sequence, and the device is on then."""
    on = list(lot)
    for number in numbers:
        first, others = rules.bundles[number]
        if not has_all(on, first):
            return False
        on.extend(others)
    return device in on


def _apart(one, other, lot):
    """The devices that are on in the end, from the lot, by just one of both."""
    rest = one.rest(lot)
    other_rest = other.rest(lot)
    return [name for name in one.devices if (name in rest) != (name in other_rest)]
