"""The matching of two texts."""


def matched(old, new):
    """Return the pairs of places of a longest common subsequence of two texts."""
    lengths = _common_lengths(old, new)
    pairs = []
    i = j = 0
    while i < len(old) and j < len(new):
        if old[i] == new[j]:
            pairs.append((i, j))
            i += 1
            j += 1
        elif lengths[i + 1][j] >= lengths[i][j + 1]:
            i += 1
        else:
            j += 1
    return pairs


def _common_lengths(old, new):
    """Return rows in which rows[i][j] is the length that old[i:] and new[j:] have in common."""
    rows = [[0] * (len(new) + 1) for _ in range(len(old) + 1)]
    for i in reversed(range(len(old))):
        for j in reversed(range(len(new))):
            if old[i] == new[j]:
                rows[i][j] = rows[i + 1][j + 1] + 1
            else:
                rows[i][j] = max(rows[i + 1][j], rows[i][j + 1])
    return rows
