"""Heaps as texts, and trees of joined heaps."""
