"""The chunks of three texts."""

from partclones.texts.matching import matched


def text_chunks(base, ours, theirs):
    """Return the list of the chunks of a base text and two texts that were made from it."""
    texts = (base, ours, theirs)
    chunks = []
    start = (0, 0, 0)
    for run in _runs(_stable_places(base, ours, theirs)):
        end = tuple([place + 1 for place in run[-1]])
        lines = tuple(base[run[0][0]:end[0]])
        chunks.extend(_part(texts, start, run[0]))
        chunks.append(("same", lines, lines, lines))
        start = end
    chunks.extend(_part(texts, start, (len(base), len(ours), len(theirs))))
    return chunks


def _stable_places(base, ours, theirs):
    """Return the places in all three texts of each stable line of the base."""
    their_places = dict(matched(base, theirs))
    return [(i, j, their_places[i]) for i, j in matched(base, ours) if i in their_places]


def _runs(places):
    """Return the runs: lists of neighbouring triples that follow each other in all three texts."""
    runs = []
    for i, j, k in places:
        if runs and runs[-1][-1] == (i - 1, j - 1, k - 1):
            runs[-1].append((i, j, k))
        else:
            runs.append([(i, j, k)])
    return runs


def _part(texts, start, end):
    """Return a list with the part chunk between two triples of places, or without any."""
    stretches = [tuple(text[low:high]) for text, low, high in zip(texts, start, end)]
    return [("part", *stretches)] if any(stretches) else []
