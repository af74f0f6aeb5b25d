"""Disks that can lose power, and what is stored on them."""
