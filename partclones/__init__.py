"""Partclones: clones that keep part of a history, and exactly which part is enough."""
