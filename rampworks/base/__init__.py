"""Rows of integers: their sums, lattices and determinants."""
