"""Integers, changes and lattices."""
