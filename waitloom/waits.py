"""Waits: functions at work by their trees, and waiting loops, whose work lies aside until somebody steps on.

What a function has still to do is kept in a list, not in calls of Python's: so it can wait in the midst of
whiles and tries, and no depth of parts and of open calls matters.
"""

from waitloom.values import catches_word, new_places


class Course:
    """A function at work: its places, what it has still to do (the last one first), and the values not yet used."""

    def __init__(self, function, values):
        self.places = new_places(function, values)
        self.work = []
        self.unused = []
        # The waiting loop whose course this is, None for a fun's and a program's.
        self.waiting = None
        self.plan(function.body)

    def plan(self, parts):
        """Do these first, in their order, and then what else there is to do."""
        self.work.extend(list(reversed(parts)))

    def tell(self, value):
        """Note a value for what comes next."""
        self.unused.append(value)

    def use(self):
        """Take the last value that was told."""
        return self.unused.pop()

    def catcher(self, word):
        """Leave what a fault of a word leaves undone: the try that catches it, None where it comes out of all."""
        # Statements begin with no value unused, so none stays behind for the try's other bodies.
        self.unused = []
        while self.work:
            part = self.work.pop()
            if part[0] == "within" and catches_word(part[1][2], word):
                return part[1]
        return None


class Waiting:
    """What a call of a loop tells: it waits, is stepped, or has ended."""

    def __init__(self, function, values):
        self.kind = "waiting"
        course = Course(function, values)
        course.waiting = self
        self.course = course
        self.stepped = False

    def has_ended(self):
        """Whether there is nothing left to step."""
        return self.course is None

    def begin_step(self):
        """Tell the course that goes on; nobody else may step it meanwhile."""
        self.stepped = True
        return self.course

    def wait(self):
        """Wait where the course is."""
        self.stepped = False

    def finish(self):
        """End; the course is kept no more."""
        self.stepped = False
        self.course = None
