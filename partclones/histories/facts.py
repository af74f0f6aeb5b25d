"""The rows of facts."""

from partclones.trees.tree import files_of


def fact_row(name, nearest, tree, origins):
    """Return the row of a version with a list of nearest versions, a tree, and origins at the same paths."""
    return name, tuple(nearest), files_of(tree), files_of(origins)


def rising_rows(rows):
    """Return the list of the rows, each one behind the rows of its nearest versions."""
    found = {}
    while len(found) < len(rows):
        for row in rows:
            # A row that is found again keeps its place.
            if all([low in found for low in row[1]]):
                found[row[0]] = row
    return list(found.values())
