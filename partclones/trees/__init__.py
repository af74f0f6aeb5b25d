"""Paths, trees, their changes, puts, choices and merges."""
