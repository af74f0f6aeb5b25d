"""Names, orders of versions, and what is common to groups of versions."""
