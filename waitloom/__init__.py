"""Waitloom: a language of loops that hand out and wait, turned into numbered states."""
