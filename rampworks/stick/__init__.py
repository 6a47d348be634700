"""Sums of sticks, and networks of one layer."""
