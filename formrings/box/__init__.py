"""Pairs of tables, and the ideals that they tell."""
