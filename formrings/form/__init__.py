"""Doubles and forms."""
