"""Lots of rows and their hulls: corners, sums, faces, volumes."""
