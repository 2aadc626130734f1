"""Books beside one another, and the facts of a book beside one another."""

from itertools import combinations

from wakesothers.books import Book
from wakesothers.checks import has_all, has_form, is_number, need_same_devices
from wakesothers.errors import OtherDevices, TooMany
from wakesothers.facts import contraries, contrary
from wakesothers.fitting import are_fitting, broken, fits, need_rules
from wakesothers.rules import Rules
from wakesothers.search import rules_or_tree, rules_or_trees, rules_or_used
from wakesothers.trees import are_trees

MOST_QUARRELLING = 12
MOST_TO_GO = 4


def within(one, other):
    """("within", trees) if all Rules that fit one fit other, or ("parts", Rules that do not)."""
    _need_book_like(one, other)
    need_rules(one)
    told = _parting(one, other)
    return ("within", told[1]) if told[0] == "never" else ("parts", told[1])


def shows_within(one, other, value):
    """Whether the value is a result of within, whoever made it."""
    _need_book_like(one, other)
    need_rules(one)
    if has_form(value, "within", 2):
        return _are_within(one, other, value[1])
    return has_form(value, "parts", 2) and _is_parting(one, other, value[1])


def alike(one, other):
    """("alike", trees, trees) if the same Rules fit both, or ("parts", Rules that fit just one)."""
    _need_two(one, other)
    told = _parting(one, other)
    if told[0] == "rules":
        return ("parts", told[1])
    back = _parting(other, one)
    if back[0] == "rules":
        return ("parts", back[1])
    return ("alike", told[1], back[1])


def shows_alike(one, other, value):
    """Whether the value is a result of alike, whoever made it."""
    _need_two(one, other)
    if has_form(value, "alike", 3):
        return _are_within(one, other, value[1]) and _are_within(other, one, value[2])
    if not has_form(value, "parts", 2):
        return False
    return _is_parting(one, other, value[1]) or _is_parting(other, one, value[1])


def needless(book):
    """The ascending tuple of the numbers of the facts without each of which the same Rules fit."""
    need_rules(book)
    return tuple([number for number in range(len(book)) if _is_needless(book, number)])


def quarrels(book):
    """The ascending tuple of all quarrels: numbers of facts that are not all so, but without any one are."""
    if len(book) > MOST_QUARRELLING:
        raise TooMany(MOST_QUARRELLING)
    found = []
    all_so = []
    for many in range(len(book) + 1):
        for numbers in combinations(range(len(book)), many):
            # Facts that are so by some Rules are no quarrel, nor are those with a lesser one among them.
            if not _is_in_one(numbers, all_so) and not _has_one(numbers, found):
                told = rules_or_used(book.devices, _numbered(book, numbers))
                if told[0] == "rules":
                    all_so.append(_others(book, broken(book, told[1])))
                else:
                    found.append(numbers)
    return tuple(sorted(found))


def mend(book):
    """(numbers of the fewest facts that have to go, Rules that fit the book without them)."""
    clashes = []
    for many in range(MOST_TO_GO + 1):
        for gone in combinations(range(len(book)), many):
            # Of all facts that no Rules fit together at least one has to go.
            if _has_of_each(gone, clashes):
                told = rules_or_used(book.devices, _numbered(book, _others(book, gone)))
                if told[0] == "rules":
                    return (gone, told[1])
                clashes.append(told[1])
    raise TooMany(MOST_TO_GO)


def shows_mend(book, value):
    """Whether the value is a result of mend, whoever made it."""
    fewest, _ = mend(book)
    if not isinstance(value, tuple) or len(value) != 2 or not _are_numbers(book, value[0]):
        return False
    gone, rules = value
    if len(gone) != len(fewest) or not isinstance(rules, Rules) or rules.devices != book.devices:
        return False
    return has_all(gone, broken(book, rules))


def _need_book_like(one, other):
    """Raises OtherDevices if the other value is no Book with the same devices."""
    if not isinstance(other, Book):
        raise OtherDevices(other)
    need_same_devices(one, other)


def _need_two(one, other):
    _need_book_like(one, other)
    need_rules(one)
    need_rules(other)


def _parting(one, other):
    """("rules", Rules that fit one and not other), or ("never", for each fact of other a tree)."""
    return rules_or_trees(one.devices, one.facts, contraries(other.facts))


def _is_parting(one, other, value):
    """Whether the value is Rules that fit one and not other."""
    return are_fitting(one, value) and not fits(other, value)


def _are_within(one, other, value):
    """Whether the value has, for each fact of other, a tree of the book one with its contrary."""
    return are_trees(one.devices, one.facts, contraries(other.facts), value)


def _is_needless(book, number):
    """Whether by all Rules that fit the other facts the one with this number is so."""
    others = book.facts[:number] + book.facts[number + 1 :]
    return rules_or_tree(book.devices, (*others, contrary(book.facts[number])))[0] == "never"


def _numbered(book, numbers):
    """The facts with these numbers, each (number, fact)."""
    return [(number, book.facts[number]) for number in numbers]


def _others(book, numbers):
    """All numbers of facts but these."""
    return tuple([number for number in range(len(book)) if number not in numbers])


def _is_in_one(numbers, lots):
    """Whether all of the numbers are in one of the tuples."""
    for lot in lots:
        if has_all(lot, numbers):
            return True
    return False


def _has_one(numbers, lots):
    """Whether one of the tuples has all its numbers among these."""
    for lot in lots:
        if has_all(numbers, lot):
            return True
    return False


def _has_of_each(numbers, lots):
    """Whether each of the tuples has at least one of the numbers."""
    for lot in lots:
        if not any([number in lot for number in numbers]):
            return False
    return True


def _are_numbers(book, value):
    """Whether the value is an ascending tuple of numbers of facts."""
    if not isinstance(value, tuple) or not all([is_number(number, len(book)) for number in value]):
        return False
    return value == tuple(sorted(set(value)))
