"""Formrings: forms of degree three, and rings on three integers."""
