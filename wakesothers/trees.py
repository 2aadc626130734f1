"""Trees of cases: whether a value, whoever made it, is a tree of some facts."""

from wakesothers.checks import has_all, is_number


def is_tree(devices, facts, value):
    """Whether the value is a tree that shows that no Rules fit the facts."""
    return _is_branch(devices, facts, (), value)


def are_trees(devices, facts, more, value):
    """Whether the value is a tuple that has, for each fact more, a tree of the facts with it."""
    if not isinstance(value, tuple) or len(value) != len(more):
        return False
    return all([is_tree(devices, (*facts, fact), tree) for fact, tree in zip(more, value)])


def _is_branch(devices, facts, chosen, value):
    """Whether it is a tree below forks in which (number, device) were chosen."""
    if not isinstance(value, tuple) or len(value) != 3:
        return False
    word, number, parts = value
    if not is_number(number, len(facts)) or not isinstance(parts, tuple):
        return False
    if word == "fork":
        return _is_fork(devices, facts, chosen, number, parts)
    return word == "leaf" and _is_leaf(facts, chosen, number, parts)


def _is_fork(devices, facts, chosen, number, trees):
    if facts[number][0] != "stirs" or number in [forked for forked, device in chosen]:
        return False
    others = [name for name in devices if name not in facts[number][1]]
    if len(trees) != len(others):
        return False
    return all(
        [_is_branch(devices, facts, (*chosen, (number, name)), tree) for name, tree in zip(others, trees)]
    )


def _is_leaf(facts, chosen, number, steps):
    if facts[number][0] not in ("stays", "sleeps"):
        return False
    on = list(facts[number][1])
    for step in steps:
        if not _is_step(facts, chosen, on, step):
            return False
        on.append(step[1])
    return _is_broken(facts[number], on)


def _is_step(facts, chosen, on, step):
    """Whether the step (number, device) can come if these devices are on."""
    if not isinstance(step, tuple) or len(step) != 2 or not is_number(step[0], len(facts)):
        return False
    fact = facts[step[0]]
    if not has_all(on, fact[1]):
        return False
    if fact[0] == "wakes":
        return step[1] == fact[2]
    # Only facts stirs are ever chosen for.
    return step in chosen


def _is_broken(fact, on):
    """Whether a device is on that may not be, if the fact stays or sleeps is so."""
    if fact[0] == "sleeps":
        return fact[2] in on
    return any([name not in fact[1] for name in on])
