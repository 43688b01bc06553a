"""Lists of rings by their discriminants."""
