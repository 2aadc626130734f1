"""A plain reading of the lines of section 15, by patterns."""

import re

from tests.day import Day
from wakesothers.books import Book
from wakesothers.errors import BadBook

NAME = "(?!(?:>|:)(?: |$))[^ \n]+"
FACT = re.compile(f"(stays|stirs)((?: {NAME})*)|(wakes|sleeps)((?: {NAME})*) > ({NAME})")
DROP = re.compile("drop (0|[1-9][0-9]*)")
PUT = re.compile(f"put ({NAME})(?: :((?: {NAME})+))?")


def names_of(text):
    return tuple(text.split())


def fact_by(line):
    """The fact that the line tells, words as they stand, or None."""
    found = FACT.fullmatch(line)
    if found is None:
        return None
    if found[1]:
        return (found[1], names_of(found[2]))
    return (found[3], names_of(found[4]), found[5])


def deed_by(line):
    """The name of the deed and its arguments, or None."""
    if fact_by(line) is not None:
        return ("tell", (fact_by(line),))
    if DROP.fullmatch(line):
        return ("drop", (int(line[5:]),))
    found = PUT.fullmatch(line)
    if found is not None:
        return ("put", (found[1], names_of(found[2] or "")))
    return ("off", ()) if line == "off" else None


def read(text, fit):
    """The day of a journal, or the number of its first wrong line; fit tells whether some Rules fit facts."""
    if not isinstance(text, str):
        return 0
    lines = text.split("\n")
    if "seen" not in lines:
        return len(lines) + 1
    at = lines.index("seen")
    try:
        book = Book("\n".join(lines[:at]))
    except BadBook as error:
        return error.value
    if not fit(book.devices, book.facts):
        return at + 1
    day = Day(book.devices, book.facts)
    for number in range(at + 1, len(lines)):
        deed = deed_by(lines[number])
        if deed is None or getattr(day, deed[0])(*deed[1]) is not None:
            return number + 1
    return day
