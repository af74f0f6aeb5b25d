"""The merge of three texts."""

from partclones.texts.chunks import text_chunks

OUR_SIDE = "<<<<<<<"
BASE_SIDE = "|||||||"
THEIR_SIDE = "======="
CLASH_END = ">>>>>>>"


def merge_texts(base, ours, theirs):
    """Return the list of the merged lines and the number of clashes."""
    lines = []
    clashes = 0
    for _, b, x, y in text_chunks(base, ours, theirs):
        if x == y or y == b:
            lines.extend(x)
        elif x == b:
            lines.extend(y)
        else:
            lines.extend([OUR_SIDE, *x, BASE_SIDE, *b, THEIR_SIDE, *y, CLASH_END])
            clashes += 1
    return lines, clashes
