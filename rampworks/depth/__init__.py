"""How lots grow, which layers are bars to what, and the greatest of some numbers."""
