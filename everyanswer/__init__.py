"""Everyanswer: a small language whose programs ask, and what holds for every row of answers."""
