"""Rampworks: which depth a network of ramps needs, told by shapes."""
