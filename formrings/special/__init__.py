"""Rings of third roots, and forms with turns of order three."""
