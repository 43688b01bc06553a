"""Pairs at which forms have the value 1 or -1."""
