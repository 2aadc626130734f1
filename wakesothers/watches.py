"""A watch: a book of what is seen, and the devices that are on."""

from wakesothers.checks import is_lot, need_device
from wakesothers.errors import BadLot, Contrary, IsOn, NoTrial, NothingToRedo, NothingToUndo
from wakesothers.facts import line_of
from wakesothers.fitting import need_rules, possible
from wakesothers.judging import judged
from wakesothers.lines import drop_line, put_line
from wakesothers.surely import ends


class Watch:
    """What was begun with, and the deeds that stand.

    Each moment is (book, lot that is on, line of the deed that led to it). All
    moments are kept as tuples, so that a trial can keep them and give them back.
    """

    def __init__(self, book):
        need_rules(book)
        self.book = book
        self.on = ()
        self.done = 0
        self._moments = ((book, (), ""),)
        self._undone = ()
        self._trial = None

    def tell(self, fact):
        """The fact is told."""
        book = self.book.told(fact)
        self._deed(book, self.on, line_of(fact))

    def drop(self, number):
        """The fact with this number goes."""
        book = self.book.untold(number)
        self._deed(book, self.on, drop_line(number))

    def put(self, device, came):
        """The device is switched on; then all of these come on, and nothing more."""
        lot = self._lot_with(device)
        if not is_lot(self.book.devices, came) or any([name in lot for name in came]):
            raise BadLot(came)
        on = self._in_sequence(lot + came)
        book = self.book
        for name in came:
            book = book.told(("wakes", lot, name))
        book = book.told(("stays", on))
        self._deed(book, on, put_line(device, came))

    def off(self):
        """All devices go off."""
        self._deed(self.book, (), "off")

    def coming(self, device):
        """The ascending tuple of all lots that can come on if the device is switched on now."""
        lot = self._lot_with(device)
        came = [tuple([name for name in rest if name not in lot]) for rest in ends(self.book, lot)]
        return tuple(sorted(came))

    def judged(self, claims):
        """The word that judged tells of the book as it is now."""
        return judged(self.book, claims)[0]

    def undo(self):
        """Takes the last deed back that stands."""
        if self.done == 0:
            raise NothingToUndo(None)
        self._lead(self._moments[:-1], (*self._undone, self._moments[-1]))

    def redo(self):
        """Does the deed again that was taken back last."""
        if not self._undone:
            raise NothingToRedo(None)
        self._lead((*self._moments, self._undone[-1]), self._undone[:-1])

    def trial(self):
        """A block at the end of which all is as it was, unless keep is called in it."""
        return Trial(self)

    def keep(self):
        """What is done in the innermost block stays done."""
        if self._trial is None:
            raise NoTrial(None)
        self._trial.kept = True

    def tried(self, look, *, keep=False):
        """What look returns of this watch, in a block of its own."""
        with Trial(self):
            told = look(self)
            if keep is True:
                self.keep()
        return told

    def copy(self):
        """A watch that is like this one, outside of all blocks."""
        watch = Watch(self._moments[0][0])
        watch._lead(self._moments, self._undone)
        return watch

    def __eq__(self, other):
        return isinstance(other, Watch) and journal_lines(self) == journal_lines(other)

    def _lot_with(self, device):
        """The lot that is on and the device, which must not be on."""
        need_device(self.book.devices, device)
        if device in self.on:
            raise IsOn(device)
        return self._in_sequence((*self.on, device))

    def _in_sequence(self, names):
        return tuple([name for name in self.book.devices if name in names])

    def _deed(self, book, on, line):
        told = possible(book)
        if told[0] == "never":
            raise Contrary(told[1])
        self._lead((*self._moments, (book, on, line)), ())

    def _lead(self, moments, undone):
        self._moments = moments
        self._undone = undone
        self.book, self.on, _ = moments[-1]
        self.done = len(moments) - 1


class Trial:
    """A block of a watch: what the watch was as the block was entered, and whether it is kept."""

    def __init__(self, watch):
        self.watch = watch
        self.kept = None

    def __enter__(self):
        watch = self.watch
        self.book = watch.book
        self.on = watch.on
        self.done = watch.done
        self.moments = watch._moments
        self.undone = watch._undone
        self.around = watch._trial
        watch._trial = self
        return watch

    def __exit__(self, kind, value, trace):
        watch = self.watch
        if kind is not None or self.kept is None:
            watch.book = self.book
            watch.on = self.on
            watch.done = self.done
            watch._moments = self.moments
            watch._undone = self.undone
        watch._trial = self.around


def journal_lines(watch):
    """The text of the book with which the watch began, the line seen, and the lines of all deeds that stand."""
    return [watch._moments[0][0].text, "seen", *[line for book, on, line in watch._moments[1:]]]
