"""Whether Rules fit a book, and whether any do."""

from wakesothers.checks import has_form, need_same_devices
from wakesothers.errors import NoRules
from wakesothers.facts import is_so
from wakesothers.rules import Rules
from wakesothers.search import rules_or_tree
from wakesothers.trees import is_tree


def broken(book, rules):
    """The ascending tuple of the numbers of the facts that are not so of the Rules."""
    need_same_devices(book, rules)
    return tuple([number for number, fact in enumerate(book.facts) if not is_so(rules, fact)])


def fits(book, rules):
    """Whether all facts are so of the Rules."""
    return broken(book, rules) == ()


def possible(book):
    """("rules", any Rules that fit), or ("never", any tree of the facts) if none do."""
    return rules_or_tree(book.devices, book.facts)


def shows_possible(book, value):
    """Whether the value is a result of possible, whoever made it."""
    if has_form(value, "rules", 2):
        return are_fitting(book, value[1])
    # A right tree shows by itself that no Rules fit.
    return has_form(value, "never", 2) and is_tree(book.devices, book.facts, value[1])


def are_fitting(book, value):
    """Whether the value is Rules of the devices of the book, that fit it."""
    return isinstance(value, Rules) and value.devices == book.devices and fits(book, value)


def need_rules(book):
    """Raises NoRules if no Rules fit the book."""
    if possible(book)[0] == "never":
        raise NoRules(book)
