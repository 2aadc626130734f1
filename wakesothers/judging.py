"""Claims: whether they are so by all Rules that fit a book, by none, or by some."""

from wakesothers.checks import has_form
from wakesothers.errors import BadClaims
from wakesothers.facts import are_claims, contraries, is_so
from wakesothers.fitting import are_fitting, need_rules
from wakesothers.search import rules_or_tree, rules_or_trees
from wakesothers.trees import are_trees, is_tree


def judged(book, claims):
    """("always", trees), ("never", tree) or ("open", rules, other): whether all claims are so."""
    _need(book, claims)
    so = rules_or_tree(book.devices, book.facts + claims)
    if so[0] == "never":
        return ("never", so[1])
    not_so = rules_or_trees(book.devices, book.facts, contraries(claims))
    if not_so[0] == "never":
        return ("always", not_so[1])
    return ("open", so[1], not_so[1])


def shows_judged(book, claims, value):
    """Whether the value is a result of judged, whoever made it."""
    _need(book, claims)
    if has_form(value, "always", 2):
        return are_trees(book.devices, book.facts, contraries(claims), value[1])
    if has_form(value, "never", 2):
        return is_tree(book.devices, book.facts + claims, value[1])
    if not _are_two_that_fit(book, value):
        return False
    return all(_so(value[1], claims)) and not all(_so(value[2], claims))


def either(book, claims):
    """("always", tree), ("never", trees) or ("open", rules, other): whether any claim is so."""
    _need(book, claims)
    none_so = rules_or_tree(book.devices, book.facts + contraries(claims))
    if none_so[0] == "never":
        return ("always", none_so[1])
    so = rules_or_trees(book.devices, book.facts, claims)
    if so[0] == "never":
        return ("never", so[1])
    return ("open", so[1], none_so[1])


def shows_either(book, claims, value):
    """Whether the value is a result of either, whoever made it."""
    _need(book, claims)
    if has_form(value, "always", 2):
        return is_tree(book.devices, book.facts + contraries(claims), value[1])
    if has_form(value, "never", 2):
        return are_trees(book.devices, book.facts, claims, value[1])
    if not _are_two_that_fit(book, value):
        return False
    return any(_so(value[1], claims)) and not any(_so(value[2], claims))


def _need(book, claims):
    if not are_claims(book.devices, claims):
        raise BadClaims(claims)
    need_rules(book)


def _so(rules, claims):
    """For each claim, whether it is so of the Rules."""
    return [is_so(rules, claim) for claim in claims]


def _are_two_that_fit(book, value):
    """Whether the value is ("open", rules, other), both of which fit the book."""
    return has_form(value, "open", 3) and are_fitting(book, value[1]) and are_fitting(book, value[2])
