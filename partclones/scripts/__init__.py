"""Scripts: doing, writing and reading commands."""
