"""A desk: lines that ask a watch, or lead it, and what they are answered."""

from wakesothers.errors import BadLine
from wakesothers.facts import are_names, fact_told
from wakesothers.journals import read_journal
from wakesothers.lines import deed_told, do_deed
from wakesothers.starting import blockers, starters
from wakesothers.surely import comes


def _surely(watch, names):
    return _lot_line(comes(watch.book, names)[0])


def _perhaps(watch, names):
    return _lot_line(comes(watch.book, names)[1])


def _starters(watch, names):
    return _lots_line(starters(watch.book, names))


def _blockers(watch, names):
    return _lots_line(blockers(watch.book, names))


# What is asked of a lot, of the book as it is now.
OF_LOTS = {"surely": _surely, "perhaps": _perhaps, "starters": _starters, "blockers": _blockers}


class Desk:
    """A watch that is asked and led by lines."""

    def __init__(self, text):
        self.watch = read_journal(text)

    def say(self, line):
        """The answer to the line."""
        if not isinstance(line, str) or "\n" in line:
            raise BadLine(line)
        words = line.split(" ")
        deed = deed_told(words)
        if deed is not None:
            do_deed(self.watch, deed)
            return "ok"
        if words[0] in OF_LOTS and are_names(words[1:]):
            answer = OF_LOTS[words[0]]
            return answer(self.watch, tuple(words[1:]))
        return self._other(line, words)

    def _other(self, line, words):
        """The answer to a line that is neither of a deed nor of a lot."""
        if words == ["undo"]:
            self.watch.undo()
            return "ok"
        if words == ["redo"]:
            self.watch.redo()
            return "ok"
        if words == ["on"]:
            return _lot_line(self.watch.on)
        if words[0] == "coming" and len(words) == 2 and are_names(words):
            return _lots_line(self.watch.coming(words[1]))
        if words[0] == "is" and len(words) > 1:
            fact = fact_told(words[1:])
            if fact is not None:
                return self.watch.judged((fact,))
        raise BadLine(line)


def _lot_line(lot):
    return " ".join(lot) if lot else "-"


def _lots_line(lots):
    return ", ".join([_lot_line(lot) for lot in lots]) if lots else "none"
