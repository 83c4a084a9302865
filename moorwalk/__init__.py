"""Land and ponds on a grid, and walks on the land."""
