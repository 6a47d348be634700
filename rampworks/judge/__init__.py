"""Claims, and papers that show them."""
