"""Lieask: a thing sought by questions, some of whose answers are lies."""
