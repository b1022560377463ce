"""Heap: things by their numbers, and the collector that takes away what nothing reaches."""

from waitloom.errors import NoThing
from waitloom.shapes import is_whole
from waitloom.things import named_by, named_in


class Heap:
    """Things by their numbers; no number is used twice."""

    def __init__(self):
        self.kept = {}
        self.made = 0

    def put(self, thing):
        """The number of a new thing."""
        number = self.made
        self.made += 1
        self.kept[number] = thing
        return number

    def need_thing(self, k):
        """Refuse what is no number of a thing that is there."""
        if not is_whole(k) or k not in self.kept:
            raise NoThing("there is no thing of this number")

    def change(self, k, thing):
        """Put another thing in the place of one."""
        self.need_thing(k)
        self.kept[k] = thing

    def thing(self, k):
        """The thing of a number."""
        self.need_thing(k)
        return self.kept[k]

    def size(self):
        """How many things are there."""
        return len(self.kept)

    def numbers(self):
        """The rising list of the numbers of all things."""
        return sorted(self.kept)

    def found_from(self, values):
        """A dict of True of the numbers of all things that are reached from some values."""
        found = {}
        ahead = named_by(values)
        while ahead:
            number = ahead.pop()
            if number not in found:
                found[number] = True
                ahead.extend(named_in(self.thing(number)))
        return found

    def reached(self, values):
        """The rising list of the numbers of all things that are reached from some values."""
        return sorted(self.found_from(values))

    def collect(self, values):
        """Take away all things that aren't reached from some values: the rising list of their numbers."""
        found = self.found_from(values)
        lost = [number for number in self.numbers() if number not in found]
        for number in lost:
            self.kept.pop(number)
        return lost
