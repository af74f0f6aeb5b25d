"""Disks."""

from partclones.errors import BadCell, BadFuse, BadItems, BadMask, BadSize, PowerCut

FEWEST_CELLS = 4
MOST_CELLS = 4000
LONGEST_ITEM = 200
LONGEST_FUSE = 1000


class Disk:
    """Numbered cells, writes of them that are queued, and perhaps a fuse."""

    WIDTH = 8

    def __init__(self, cells):
        """Make a disk with a number of cells that hold None."""
        if cells < FEWEST_CELLS or cells > MOST_CELLS:
            raise BadSize(cells)
        self._held = [None] * cells
        # Pairs of a cell and its items, in the order of the writes.
        self._queue = []
        self._fuse = None

    @property
    def cells(self):
        """The number of cells."""
        return len(self._held)

    @property
    def queued(self):
        """The number of queued writes."""
        return len(self._queue)

    @property
    def fuse(self):
        """The number of operations that are left, or None without a fuse."""
        return self._fuse

    @fuse.setter
    def fuse(self, value):
        """Set the number of operations that are left, or None for no fuse."""
        if value is not None:
            check_fuse(value)
        self._fuse = value

    def cut_after(self, count):
        """Assign the fuse."""
        self.fuse = count

    def read(self, at):
        """Return what a cell will hold after its queued writes: None or a tuple of strings."""
        self._check_cell(at)
        for place, items in reversed(self._queue):
            if place == at:
                return items
        return self._held[at]

    def write(self, at, items):
        """Queue a write of a tuple of strings into a cell."""
        self._check_cell(at)
        if len(items) > Disk.WIDTH or any([len(item) > LONGEST_ITEM for item in items]):
            raise BadItems()
        self._burn()
        self._queue.append((at, items))

    def flush(self):
        """Carry out all queued writes."""
        self._burn()
        for at, items in self._queue:
            self._held[at] = items
        self._queue = []

    def fall(self, mask):
        """Carry out the queued writes whose bits in the mask are 1, lose the others, and remove the fuse."""
        check_mask(mask)
        for number, (at, items) in enumerate(self._queue):
            if (mask >> number) & 1:
                self._held[at] = items
        self._queue = []
        self._fuse = None

    def _check_cell(self, at):
        """Raise BadCell unless there is a cell with this number."""
        if at < 0 or at >= len(self._held):
            raise BadCell(at)

    def _burn(self):
        """Lower the fuse by one operation; raise PowerCut if none is left."""
        if self._fuse is not None:
            if self._fuse == 0:
                raise PowerCut()
            self._fuse -= 1


def check_fuse(value):
    """Raise BadFuse unless a disk can have a fuse of this length."""
    if value < 0 or value > LONGEST_FUSE:
        raise BadFuse(value)


def check_mask(mask):
    """Raise BadMask unless a disk can fall with this mask."""
    if mask < 0 or mask > 2 ** 40:
        raise BadMask(mask)
