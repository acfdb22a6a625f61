"""The least cost by another way, and where the heaps are joined otherwise."""
