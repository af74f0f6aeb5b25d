"""What several tests use: small texts, point 3, and orders worked out from their definition."""

import itertools


def small_texts(signs, longest):
    """All texts of lines that are single signs, up to a length."""
    texts = []
    for length in range(longest + 1):
        texts.extend(list(lines) for lines in itertools.product(signs, repeat=length))
    return texts


def spoil(value):
    """Change every list and dict inside of a value."""
    if isinstance(value, dict):
        for inner in list(value.values()):
            spoil(inner)
        value["spoilt"] = ["spoilt"]
    elif isinstance(value, list):
        for inner in list(value):
            spoil(inner)
        value.append("spoilt")
    elif isinstance(value, tuple):
        for inner in value:
            spoil(inner)


class Web:
    """An order as point 20 defines it, to compare with: every answer straight from the definition."""

    def __init__(self, rows):
        self.parents = {name: list(parents) for name, parents in rows}

    def under(self, name):
        found = {name}
        for parent in self.parents[name]:
            found |= self.under_cached(parent)
        return found

    def under_cached(self, name):
        if not hasattr(self, "known"):
            self.known = {}
        if name not in self.known:
            self.known[name] = self.under(name)
        return self.known[name]

    def is_under(self, low, high):
        return low in self.under_cached(high)

    def maximal(self, names):
        return sorted(
            name for name in names if not any(name != other and self.is_under(name, other) for other in names)
        )

    def minimal(self, names):
        return [name for name in names if not any(name != low and self.is_under(low, name) for low in names)]

    def common(self, ones, others):
        return sorted(
            name
            for name in self.parents
            if any(self.is_under(name, one) for one in ones) and any(self.is_under(name, other) for other in others)
        )

    def group_bases(self, ones, others):
        return self.maximal(self.common(ones, others))

    def base_lists(self, ones, others):
        lists = [self.group_bases(ones, others)]
        while len(lists[-1]) >= 2:
            last = lists[-1]
            lists.append(
                self.maximal([name for name in self.parents if sum(self.is_under(name, high) for high in last) >= 2])
            )
        return lists


def make_order(rows):
    """An order made by puts of rows, pairs of a name and parents."""
    from partclones.webs.order import Order

    order = Order()
    for name, parents in rows:
        order.put(name, list(parents))
    return order


def grown_rows(count, seed):
    """Rows of a web with many merges; the names do not ascend in the order of the puts."""
    rows = []
    state = seed
    for number in range(count):
        state = (state * 1103515245 + 12345) % 2**31
        width = min(number, (state >> 16) % 4)
        parents = []
        for turn in range(width):
            state = (state * 1103515245 + 12345) % 2**31
            back = 1 + (state >> 16) % min(number, 7)
            parent = rows[number - back][0]
            if parent not in parents:
                parents.append(parent)
        rows.append((f"{'zqmbk'[number % 5]}{number}", parents))
    return rows


CRISS_CROSS = [("r", []), ("a", ["r"]), ("b", ["r"]), ("c", ["a", "b"]), ("d", ["b", "a"])]

# Two merge bases that have two merge bases again, under which two roots lie.
TWO_ROOTS = [
    *[("p", []), ("q", []), ("a", ["p", "q"]), ("b", ["q", "p"])],
    *[("c", ["a", "b"]), ("d", ["a", "b"]), ("e", ["c", "d"]), ("f", ["d", "c"])],
]


class Chooser:
    """Numbers that look random and are the same in every run."""

    def __init__(self, seed):
        self.state = seed

    def below(self, bound):
        self.state = (self.state * 6364136223846793005 + 1442695040888963407) % 2**64
        return (self.state >> 33) % bound

    def one_of(self, things):
        return things[self.below(len(things))]

    def some_of(self, things, most):
        found = []
        for _ in range(self.below(most + 1) if things else 0):
            thing = self.one_of(things)
            if thing not in found:
                found.append(thing)
        return found


class Grown:
    """A history with commits, merges and picks, and a web of the same versions to compare with."""

    def __init__(self, seed):
        from partclones.histories.history import History

        self.chooser = Chooser(seed)
        self.history = History()
        self.rows = []

    def grow(self, count):
        for _ in range(count):
            name = f"{'zqmbk'[len(self.rows) % 5]}{len(self.rows)}"
            self.rows.append((name, self.added(name)))
        return self

    def added(self, name):
        """Add one version and return its parents."""
        names = [row[0] for row in self.rows][-6:]
        kind = self.chooser.below(4)
        if kind == 0 and len(names) > 2:
            base, change, onto = [self.chooser.one_of(names) for _ in range(3)]
            if self.tried(self.history.pick, name, base, change, onto):
                return [onto]
        if kind <= 2 and len(names) > 1:
            at = self.chooser.below(len(names) - 1)
            if self.tried(self.history.merge, name, names[at], names[at + 1]):
                return names[at:at + 2]
        parents = self.chooser.some_of(names, 3)
        tree = self.changed(self.history.tree(parents[0]) if parents else {})
        self.history.commit(name, parents, tree)
        return parents

    def tried(self, call, *arguments):
        from partclones.errors import TooLarge

        try:
            call(*arguments)
        except TooLarge:
            return False
        return True

    def changed(self, tree):
        """A tree with another line here or there, and perhaps a path more or less."""
        tree = {path: list(lines) for path, lines in tree.items()}
        for path in self.chooser.some_of(["f", "g/a", "g/b", "h"], 4):
            if path in tree and self.chooser.below(5) == 0:
                del tree[path]
                continue
            lines = tree[path][:9] if path in tree else list("abcde")[self.chooser.below(5):]
            at = self.chooser.below(len(lines) + 1)
            lines[at:at + self.chooser.below(2)] = [self.chooser.one_of("abcdefgh")]
            tree[path] = lines
        return tree

    def web(self):
        return Web(self.rows)


def plain_core(grown, kept):
    """The core of a history in which nothing is forgotten, straight from points 35, 37 and 38."""
    web = grown.web()
    rows = []
    for name in sorted(kept):
        lower = [low for low in kept if low != name and web.is_under(low, name)]
        parts = (grown.history.tree(name), grown.history.origins(name))
        files, origins = [tuple((path, tuple(part[path])) for path in sorted(part)) for part in parts]
        rows.append((name, tuple(web.maximal(lower)), files, origins))
    numbers = {}
    for name in web.parents:
        if name not in kept:
            above = [high for high in kept if web.is_under(name, high)]
            kind = tuple(sorted(web.minimal(above)))
            if kind:
                numbers[kind] = numbers.get(kind, 0) + 1
    return tuple(rows), tuple(sorted(numbers.items()))


def plain_is_closed(web, names):
    """Whether a set of versions is closed, straight from point 26."""
    return all(base in names for x in names for y in names for base in web.group_bases([x], [y]))


def subsets(names):
    """All sets of the names, as lists that ascend, smaller ones first."""
    return [list(chosen) for size in range(len(names) + 1) for chosen in itertools.combinations(sorted(names), size)]


def is_plain(value):
    """Whether a value is made of tuples, strings, integers, flags and None alone."""
    if type(value) is tuple:
        return all(is_plain(inner) for inner in value)
    return value is None or type(value) in (str, int, bool)


def example():
    """The history of the interface's example."""
    from partclones.histories.history import History

    history = History()
    history.commit("r", [], {"f": ["a", "b", "c"]})
    history.commit("x", ["r"], {"f": ["a", "b", "c", "d"]})
    history.commit("y", ["r"], {"f": ["b", "c"]})
    history.merge("m", "x", "y")
    return history


def criss_cross(**trees):
    """A history of the order CRISS_CROSS with these trees."""
    from partclones.histories.history import History

    history = History()
    for name, parents in CRISS_CROSS:
        history.commit(name, parents, trees.get(name, {}))
    return history
