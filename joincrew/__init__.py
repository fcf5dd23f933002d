"""Joincrew: programs that fork and join, run by hands that take work from one another."""
