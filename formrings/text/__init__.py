"""Texts of what the package has."""
