"""What the tests of books, of fitting and of claims compare the program with: plain, and by names alone."""

from functools import cache
from random import Random

from tests.plain import SIX, all_lots, end, ends, every_rules, in_sequence, some_bundles
from wakesothers.books import Book
from wakesothers.desk import Desk
from wakesothers.journals import journal
from wakesothers.rules import Rules
from wakesothers.watches import Watch

KINDS = ("stays", "stirs", "wakes", "sleeps")
MOST = {"stays": 8, "stirs": 3, "wakes": 8, "sleeps": 8}
CONTRARY = {"stays": "stirs", "stirs": "stays", "wakes": "sleeps", "sleeps": "wakes"}
SMALL = (("a",), ("b", "a"), ("pump", "fan", "lamp"))


def all_facts(devices):
    lots = all_lots(devices)
    found = [(kind, lot) for kind in ("stays", "stirs") for lot in lots]
    return found + [
        (kind, lot, name) for kind in ("wakes", "sleeps") for lot in lots for name in devices if name not in lot
    ]


def line(fact):
    lot = "".join(" " + name for name in fact[1])
    return fact[0] + lot + (f" > {fact[2]}" if len(fact) == 3 else "")


def text_of(devices, facts):
    return "\n".join(["devices " + " ".join(devices)] + [line(fact) for fact in facts])


def book_of(devices, facts):
    return Book(text_of(devices, facts))


def contrary(fact):
    return (CONTRARY[fact[0]],) + fact[1:]


def contraries(facts):
    return tuple(contrary(fact) for fact in facts)


def so_by(told, fact):
    """Whether the fact is so by the ends that are told."""
    kind, lot = fact[0], fact[1]
    if kind in ("stays", "stirs"):
        return (told[lot] == lot) is (kind == "stays")
    return (fact[2] in told[lot]) is (kind == "wakes")


def so_of(rules, fact):
    return so_by({fact[1]: end(rules.devices, rules.bundles, fact[1])}, fact)


def all_so(rules, facts):
    return all(so_of(rules, fact) for fact in facts)


@cache
def every_ends(devices):
    """All different Rules of the devices, each with its ends."""
    return tuple((rules, ends(devices, rules.bundles)) for rules in every_rules(devices))


def every_that_fits(devices, facts):
    return [rules for rules, told in every_ends(devices) if all(so_by(told, fact) for fact in facts)]


def is_integer(value):
    return isinstance(value, int) and not isinstance(value, bool)


def is_tree(devices, facts, value, chosen=()):
    """A plain reading of section 8: whether the value is a tree of the facts below these forks."""
    if not isinstance(value, tuple) or len(value) != 3 or not is_integer(value[1]) or not isinstance(value[2], tuple):
        return False
    word, number, parts = value
    if number not in range(len(facts)):
        return False
    kind, lot = facts[number][:2]
    forked = dict(chosen)
    if word == "fork" and kind == "stirs" and number not in forked:
        others = [name for name in devices if name not in lot]
        return len(parts) == len(others) and all(
            is_tree(devices, facts, part, chosen + ((number, name),)) for name, part in zip(others, parts)
        )
    if word != "leaf" or kind not in ("stays", "sleeps"):
        return False
    on = set(lot)
    for step in parts:
        name = _comes(facts, forked, on, step)
        if name is None:
            return False
        on.add(name)
    return facts[number][2] in on if kind == "sleeps" else on != set(lot)


def _comes(facts, forked, on, step):
    """The device that comes on by this step, or None if it is no right step."""
    if not isinstance(step, tuple) or len(step) != 2 or not is_integer(step[0]) or not 0 <= step[0] < len(facts):
        return None
    fact = facts[step[0]]
    name = {"wakes": fact[-1], "stirs": forked.get(step[0])}.get(fact[0])
    return name if set(fact[1]) <= on and step[1] == name else None


def is_possible(devices, facts, value):
    """Whether the value is a result of possible, of a book with these facts."""
    if not isinstance(value, tuple) or len(value) != 2:
        return False
    if value[0] == "rules":
        return are_fitting(devices, facts, value[1])
    return value[0] == "never" and is_tree(devices, facts, value[1])


def are_fitting(devices, facts, value):
    return isinstance(value, Rules) and value.devices == devices and all_so(value, facts)


def are_trees(devices, facts, more, value):
    """Whether the value is a tuple of a tree for each one more fact."""
    right = isinstance(value, tuple) and len(value) == len(more)
    return right and all(is_tree(devices, facts + (fact,), tree) for fact, tree in zip(more, value))


def is_judged(devices, facts, claims, value):
    """Whether the value is a result of judged, of a book with these facts that some Rules fit."""
    if not isinstance(value, tuple) or len(value) not in (2, 3):
        return False
    if value[0] == "open" and len(value) == 3:
        two = all(are_fitting(devices, facts, rules) for rules in value[1:])
        return two and all_so(value[1], claims) and not all_so(value[2], claims)
    if value[0] == "always" and len(value) == 2:
        return are_trees(devices, facts, contraries(claims), value[1])
    return value[0] == "never" and len(value) == 2 and is_tree(devices, facts + claims, value[1])


def is_either(devices, facts, claims, value):
    """Whether the value is a result of either: what judged tells of the contraries, turned round."""
    if isinstance(value, tuple) and len(value) == 3:
        value = (value[0], value[2], value[1])
    elif isinstance(value, tuple) and len(value) == 2:
        turned = [word for word in ("always", "never") if value[0] == word]
        value = ({"always": "never", "never": "always"}[turned[0]] if turned else None, value[1])
    return is_judged(devices, facts, contraries(claims), value)


def forks(tree):
    """All numbers that are forked anywhere in a right tree."""
    if tree[0] == "leaf":
        return set()
    return {tree[1]}.union(*[forks(part) for part in tree[2]])


def shape(value):
    """The value with all Rules, Books, Watches and Desks told as tuples: what can be compared, kinds and all."""
    if isinstance(value, Rules):
        return ("Rules", value.devices, value.bundles, value.rests)
    if isinstance(value, Book):
        return ("Book", value.text, value.devices, value.facts)
    if isinstance(value, Watch):
        return ("Watch", journal(value), shape(value.book), value.on, value.done)
    if isinstance(value, Desk):
        return ("Desk", shape(value.watch))
    if isinstance(value, tuple):
        return tuple(shape(part) for part in value)
    return value


def random_facts(devices, chance, many):
    """So many facts, or fewer, with no more of a kind than a book may have."""
    facts = all_facts(devices)
    chosen = []
    for fact in chance.sample(facts, min(many, len(facts))):
        if len([told for told in chosen if told[0] == fact[0]]) < MOST[fact[0]]:
            chosen.append(fact)
    return tuple(chosen)


@cache
def small_books():
    """Devices and facts of one to three devices: all of one, and some of two and three."""
    found = []
    facts = all_facts(("a",))
    for choice in range(2 ** len(facts)):
        found.append((("a",), tuple(fact for at, fact in enumerate(facts) if choice >> at & 1)))
    chance = Random(1)
    for devices, many in ((("b", "a"), 120), (("pump", "fan", "lamp"), 160)):
        for size in range(many):
            found.append((devices, random_facts(devices, chance, size % 7)))
    # Of facts that some Rules keep, there can be more that fit.
    for devices, many in ((("b", "a"), 60), (("pump", "fan", "lamp"), 120)):
        rules = every_ends(devices)
        for size in range(many):
            told = chance.choice(rules)[1]
            facts = [fact for fact in random_facts(devices, chance, 40) if so_by(told, fact)]
            found.append((devices, tuple(facts[: size % 9])))
    return found


def facts_of_great(seed, tight=True):
    """Facts of six devices that some Rules keep: three stirs, eight of each other kind, if there are as many."""
    chance = Random(seed)
    rules = Rules(SIX, some_bundles(SIX, 3 + seed % 6, seed))
    told = ends(SIX, rules.bundles)
    facts = []
    for kind in KINDS:
        right = [fact for fact in all_facts(SIX) if fact[0] == kind and so_by(told, fact)]
        chance.shuffle(right)
        if tight:
            # Stirs of small lots, and the others of great ones, leave much open.
            right.sort(key=lambda fact: len(fact[1]) if fact[0] == "stirs" else -len(fact[1]) + chance.random() * 3)
        facts += right[: MOST[kind]]
    chance.shuffle(facts)
    return rules, tuple(facts)


@cache
def great_books():
    """Rules, and the greatest books of six devices: twenty-seven facts, all so of the Rules."""
    found = []
    for seed in range(80):
        rules, facts = facts_of_great(seed, seed % 4 != 3)
        if len(facts) == 27:
            found.append((rules, facts))
    return found


# No Rules fit any of these books, and without any one of its facts some do: all three facts stirs have to be forked.
TIGHT = (
    "stirs b e\nstirs f\nstirs d e\nstays a d e f\nwakes b c e > f\nwakes d e f > a\nwakes a d > f\nsleeps b e > a\nsleeps a c d > e",
    "stirs b f\nstirs a\nstirs a f\nwakes a b e > c\nwakes a b c > f\nsleeps a > e\nsleeps a e > d\nsleeps a d f > c\nsleeps b c f > a",
    "stirs f\nstirs b f\nstirs c\nstays a b f\nstays c d\nwakes a c d f > e\nsleeps c f > e",
    "stirs a\nstirs d e\nstirs b\nstays b d e\nstays b d\nwakes b c d e > f\nsleeps a d f > b\nsleeps a > d\nsleeps a b e > f",
)


def tight_books():
    return [Book("devices a b c d e f\n" + text) for text in TIGHT]


@cache
def deep_cases():
    """Facts of six devices, and two more facts stirs: no Rules fit all, and without any one of the five stirs some do."""
    facts = (
        ("stirs", ("b", "d")), ("stirs", ("b", "c", "d")), ("stirs", ("c", "e")), ("stays", ("a", "c", "e", "f")),
        ("wakes", ("c", "d", "f"), "e"), ("wakes", ("b", "e", "f"), "a"), ("sleeps", ("b", "d"), "a"),
    )
    more = (("stirs", ("b", "d", "e")), ("stirs", ("b", "d", "f")))
    chance = Random(3)
    found = []
    for _ in range(20):
        table = dict(zip(SIX, chance.sample(SIX, 6)))
        told = [renamed(table, SIX, fact) for fact in facts + more]
        found.append((tuple(told[:7]), tuple(told[7:])))
    return found


def renamed(table, devices, fact):
    """The fact told of devices of other names, which stand in this sequence."""
    lot = in_sequence(devices, [table[name] for name in fact[1]])
    return (fact[0], lot) + tuple(table[name] for name in fact[2:])
