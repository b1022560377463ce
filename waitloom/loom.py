"""Loom: a text is read, turned and run, and what comes of it is told in lines."""

from waitloom.machine import run_code
from waitloom.reading import read
from waitloom.turning import turned


def answered(text, inputs, limit, room):
    """The list of lines that a run of a text tells: what it hands out, and how it ends."""
    told = run_code(turned(read(text)), inputs, limit, room)
    lines = [f"hand {value}" for value in told[0]]
    lines.append(" ".join([str(word) for word in told[1]]))
    return lines
