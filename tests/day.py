"""A plain watch, by names and lists alone, that the tests lead beside the program's."""

from tests.known import some_fit
from tests.plain import in_sequence
from tests.seen import MOST, all_facts, book_of, line
from wakesothers.errors import BadDevice, BadFact, BadLot, Contrary, Full, IsOn, NoFact, NothingToRedo, NothingToUndo
from wakesothers.watches import Watch


class Day:
    """Facts, what is on, and the lines of what was done; each moment is a tuple of the three."""

    def __init__(self, devices, facts):
        self.devices = devices
        self.moments = [(tuple(facts), (), None)]
        self.undone = []

    @property
    def facts(self):
        return self.moments[-1][0]

    @property
    def on(self):
        return self.moments[-1][1]

    def lines(self):
        first = ["devices " + " ".join(self.devices)] + [line(fact) for fact in self.moments[0][0]]
        return first + ["seen"] + [told for _, _, told in self.moments[1:]]

    def with_facts(self, more):
        """The facts with these behind, or the number of which there are too many."""
        facts = list(self.facts)
        for fact in more:
            if fact not in facts:
                if len([told for told in facts if told[0] == fact[0]]) == MOST[fact[0]]:
                    return MOST[fact[0]]
                facts.append(fact)
        return tuple(facts)

    def led(self, facts, on, told):
        """What is raised, (error, value), or None if the deed is done; a tree is told as the facts it is of."""
        if isinstance(facts, int):
            return (Full, facts)
        if not some_fit(self.devices, facts):
            return (Contrary, facts)
        self.moments.append((facts, on, told))
        self.undone = []
        return None

    def tell(self, fact):
        if fact not in all_facts(self.devices):
            return (BadFact, fact)
        return self.led(self.with_facts([fact]), self.on, line(fact))

    def drop(self, number):
        if number not in range(len(self.facts)):
            return (NoFact, number)
        return self.led(self.facts[:number] + self.facts[number + 1 :], self.on, f"drop {number}")

    def put(self, device, came):
        if device not in self.devices:
            return (BadDevice, device)
        if device in self.on:
            return (IsOn, device)
        lot = in_sequence(self.devices, self.on + (device,))
        if came != in_sequence(self.devices, came) or set(came) & set(lot):
            return (BadLot, came)
        on = in_sequence(self.devices, lot + came)
        more = [("wakes", lot, name) for name in came] + [("stays", on)]
        told = f"put {device}" + (" : " + " ".join(came) if came else "")
        return self.led(self.with_facts(more), on, told)

    def off(self):
        return self.led(self.facts, (), "off")

    def undo(self):
        if len(self.moments) == 1:
            return (NothingToUndo, None)
        self.undone.append(self.moments.pop())
        return None

    def redo(self):
        if not self.undone:
            return (NothingToRedo, None)
        self.moments.append(self.undone.pop())
        return None

    def copy(self):
        day = Day(self.devices, self.moments[0][0])
        day.moments, day.undone = list(self.moments), list(self.undone)
        return day


def both(devices, facts):
    """A watch and a day of the same facts."""
    return Watch(book_of(devices, facts)), Day(devices, facts)


def some_deed(day, chance):
    """The name of a deed and its arguments, mostly such as are let."""
    word = chance.choice(("tell", "tell", "put", "put", "put", "put", "off", "drop", "undo", "undo", "redo"))
    if word == "tell":
        return (word, (chance.choice(all_facts(day.devices) + list(day.facts)),))
    if word == "drop":
        return (word, (chance.randrange(len(day.facts) + 1),))
    if word == "put":
        device = chance.choice(day.devices)
        others = [name for name in day.devices if name not in day.on and name != device]
        came = in_sequence(day.devices, chance.sample(others, chance.randrange(len(others) + 1)))
        return (word, (device, came if chance.random() < 0.5 or not others else ()))
    return (word, ())
