"""Histories, what they tell, and what is left of them when versions are forgotten."""
