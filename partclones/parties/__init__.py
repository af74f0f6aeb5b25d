"""Clones and the hub: what they send one another, and what they store."""
