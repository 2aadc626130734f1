"""Journals: the texts of what was done on a watch."""

from wakesothers.books import Book
from wakesothers.errors import BadBook, BadJournal, NoRules, WakeError
from wakesothers.lines import deed_told, do_deed
from wakesothers.watches import Watch, journal_lines


def journal(watch):
    """The text from which read_journal makes an equal watch."""
    return "\n".join(journal_lines(watch))


def read_journal(text):
    """A watch on which all was done that the journal tells."""
    if not isinstance(text, str):
        raise BadJournal(0)
    lines = text.split("\n")
    if "seen" not in lines:
        raise BadJournal(len(lines) + 1)
    at = lines.index("seen")
    watch = _begun(lines[:at])
    # Lines are numbered from 1 on, and the deeds begin behind the line seen.
    for number, line in enumerate(lines[at + 1 :], start=at + 2):
        _do_line(watch, number, line)
    return watch


def _begun(lines):
    """A watch of the book of these lines, behind which a line seen stands."""
    try:
        return Watch(Book("\n".join(lines)))
    except BadBook as e:
        raise BadJournal(e.value) from None
    except NoRules:
        raise BadJournal(len(lines) + 1) from None


def _do_line(watch, number, line):
    deed = deed_told(line.split(" "))
    if deed is None:
        raise BadJournal(number)
    try:
        do_deed(watch, deed)
    except WakeError:
        raise BadJournal(number) from None
