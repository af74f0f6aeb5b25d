"""How much room records take."""

from partclones.vault.chain import cells_taken
from partclones.vault.root import ROOT_CELLS


def cells_needed(records):
    """Return the number of cells that are in use in a vault with these records."""
    chained = sum([cells_taken(len(records[key])) for key in records])
    return len(ROOT_CELLS) + cells_taken(2 * len(records)) + chained
