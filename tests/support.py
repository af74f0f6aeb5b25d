"""What several tests use: small texts, point 3, and orders worked out from their definition."""

import itertools


def small_texts(signs, longest):
    """All texts of lines that are single signs, up to a length."""
    texts = []
    for length in range(longest + 1):
        texts.extend(list(lines) for lines in itertools.product(signs, repeat=length))
    return texts


def spoil(value):
    """Change every list and dict inside of a value."""
    if isinstance(value, dict):
        for inner in list(value.values()):
            spoil(inner)
        value["spoilt"] = ["spoilt"]
    elif isinstance(value, list):
        for inner in list(value):
            spoil(inner)
        value.append("spoilt")
    elif isinstance(value, tuple):
        for inner in value:
            spoil(inner)


class Web:
    """An order as point 20 defines it, to compare with: every answer straight from the definition."""

    def __init__(self, rows):
        self.parents = {name: list(parents) for name, parents in rows}

    def under(self, name):
        found = {name}
        for parent in self.parents[name]:
            found |= self.under_cached(parent)
        return found

    def under_cached(self, name):
        if not hasattr(self, "known"):
            self.known = {}
        if name not in self.known:
            self.known[name] = self.under(name)
        return self.known[name]

    def is_under(self, low, high):
        return low in self.under_cached(high)

    def maximal(self, names):
        return sorted(
            name for name in names if not any(name != other and self.is_under(name, other) for other in names)
        )

    def common(self, ones, others):
        return sorted(
            name
            for name in self.parents
            if any(self.is_under(name, one) for one in ones) and any(self.is_under(name, other) for other in others)
        )

    def group_bases(self, ones, others):
        return self.maximal(self.common(ones, others))

    def base_lists(self, ones, others):
        lists = [self.group_bases(ones, others)]
        while len(lists[-1]) >= 2:
            last = lists[-1]
            lists.append(
                self.maximal([name for name in self.parents if sum(self.is_under(name, high) for high in last) >= 2])
            )
        return lists


def make_order(rows):
    """An order made by puts of rows, pairs of a name and parents."""
    from partclones.webs.order import Order

    order = Order()
    for name, parents in rows:
        order.put(name, list(parents))
    return order


def grown_rows(count, seed):
    """Rows of a web with many merges; the names do not ascend in the order of the puts."""
    rows = []
    state = seed
    for number in range(count):
        state = (state * 1103515245 + 12345) % 2**31
        width = min(number, (state >> 16) % 4)
        parents = []
        for turn in range(width):
            state = (state * 1103515245 + 12345) % 2**31
            back = 1 + (state >> 16) % min(number, 7)
            parent = rows[number - back][0]
            if parent not in parents:
                parents.append(parent)
        rows.append((f"{'zqmbk'[number % 5]}{number}", parents))
    return rows


CRISS_CROSS = [("r", []), ("a", ["r"]), ("b", ["r"]), ("c", ["a", "b"]), ("d", ["b", "a"])]
