"""Nets, and fleets of clones with a hub."""
