"""Ideals of rings."""
