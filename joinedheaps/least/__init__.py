"""The least costs, the trees that have them, and what shows it."""
