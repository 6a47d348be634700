"""Networks of ramps, and the readings that tell their values."""
