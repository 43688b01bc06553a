"""Rings and elements."""
