"""Lines, texts, their matchings, edits, chunks and merges."""
