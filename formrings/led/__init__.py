"""Least forms, and ways between forms."""
