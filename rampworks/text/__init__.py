"""Texts of lots, readings and networks."""
