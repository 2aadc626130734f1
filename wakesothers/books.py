"""Books: devices, and the facts that were seen of them, as a text."""

from wakesothers.checks import are_devices, is_number, need_same_devices
from wakesothers.errors import BadBook, BadFact, Full, NoFact
from wakesothers.facts import MOST_FACTS, fact_of, has_most, is_fact, line_of


class Book:
    """A text of lines: one of the devices, then one for each fact."""

    def __init__(self, text):
        if not isinstance(text, str):
            raise BadBook(0)
        lines = text.split("\n")
        self.text = text
        self.devices = _devices_of(lines[0])
        self.facts = _facts_of(self.devices, lines[1:])

    def told(self, fact):
        """The Book with this fact behind the others, or an equal one if it is there."""
        if not is_fact(self.devices, fact):
            raise BadFact(fact)
        if fact in self:
            return Book(self.text)
        if has_most(self.facts, fact[0]):
            raise Full(MOST_FACTS[fact[0]])
        return _book_of(self.devices, (*self.facts, fact))

    def untold(self, number):
        """The Book without the fact with this number."""
        if not is_number(number, len(self.facts)):
            raise NoFact(number)
        return _book_of(self.devices, self.facts[:number] + self.facts[number + 1 :])

    def __len__(self):
        return len(self.facts)

    def __contains__(self, value):
        return value in self.facts

    def __eq__(self, other):
        return isinstance(other, Book) and self.text == other.text

    def __or__(self, other):
        need_same_devices(self, other)
        book = self
        for fact in other.facts:
            book = book.told(fact)
        return book


def _book_of(devices, facts):
    return Book("\n".join([" ".join(["devices", *devices]), *[line_of(fact) for fact in facts]]))


def _devices_of(line):
    words = line.split(" ")
    devices = tuple(words[1:])
    if words[0] != "devices" or not are_devices(devices):
        raise BadBook(1)
    return devices


def _facts_of(devices, lines):
    facts = []
    # The line of the devices is the first one.
    for number, line in enumerate(lines, start=2):
        fact = fact_of(devices, line)
        if fact is None or fact in facts or has_most(facts, fact[0]):
            raise BadBook(number)
        facts.append(fact)
    return tuple(facts)
