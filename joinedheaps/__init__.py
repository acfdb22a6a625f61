"""Joinedheaps: neighbouring heaps joined in the cheapest order."""
