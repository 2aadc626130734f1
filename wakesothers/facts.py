"""Facts: what they are, when they are so, and the lines of a book that tell them."""

from wakesothers.checks import is_lot

MOST_FACTS = {"stays": 8, "stirs": 3, "wakes": 8, "sleeps": 8}
CONTRARIES = {"stays": "stirs", "stirs": "stays", "wakes": "sleeps", "sleeps": "wakes"}
MOST_CLAIMS = 2


def is_fact(devices, value):
    if not isinstance(value, tuple) or len(value) not in (2, 3) or not is_lot(devices, value[1]):
        return False
    if len(value) == 2:
        return value[0] in ("stays", "stirs")
    return value[0] in ("wakes", "sleeps") and value[2] in devices and value[2] not in value[1]


def are_claims(devices, value):
    if not isinstance(value, tuple) or not 1 <= len(value) <= MOST_CLAIMS:
        return False
    # Only facts go into the set: it cannot take each value.
    return all([is_fact(devices, fact) for fact in value]) and len(set(value)) == len(value)


def contrary(fact):
    return (CONTRARIES[fact[0]], *fact[1:])


def contraries(facts):
    return tuple([contrary(fact) for fact in facts])


def is_so(rules, fact):
    kind, lot = fact[:2]
    rest = rules.rest(lot)
    if kind == "stays":
        return rest == lot
    if kind == "stirs":
        return rest != lot
    return (fact[2] in rest) == (kind == "wakes")


def has_most(facts, kind):
    """Whether there are as many facts of this kind as a book may have."""
    return len([fact for fact in facts if fact[0] == kind]) >= MOST_FACTS[kind]


def are_names(words):
    """Whether each may stand for a name in a line, of whatever devices."""
    return all([word not in ("", ">", ":") for word in words])


def fact_told(words):
    """The fact that the words tell, words as they stand, or None if they have no such form."""
    if words[0] in ("stays", "stirs") and are_names(words):
        return (words[0], tuple(words[1:]))
    if words[0] in ("wakes", "sleeps") and len(words) > 2 and words[-2] == ">":
        if are_names(words[:-2]) and are_names(words[-1:]):
            return (words[0], tuple(words[1:-2]), words[-1])
    return None


def fact_of(devices, line):
    """The fact that the line tells, or None if it tells none."""
    fact = fact_told(line.split(" "))
    return fact if is_fact(devices, fact) else None


def line_of(fact):
    """The line of a book that tells the fact."""
    if len(fact) == 2:
        return " ".join([fact[0], *fact[1]])
    return " ".join([fact[0], *fact[1], ">", fact[2]])
