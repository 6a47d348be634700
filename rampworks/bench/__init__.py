"""A bench of networks under names."""
