"""Rings below and above a ring."""
