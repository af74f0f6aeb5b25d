"""Orders of versions."""

from partclones.errors import BadName, Repeated, Taken, Unknown
from partclones.webs.names import is_name


class Order:
    """Versions, and which of them are under which."""

    def __init__(self):
        """Make an order without versions."""
        self._names = []
        # For each version, in the order of the puts, a dict of the versions under it in the same order.
        self._under = {}

    def put(self, name, parents):
        """Add a version with a list of parents."""
        self.check_new(name)
        lower = self.under_group(self.checked(parents))
        self._under[name] = {low: True for low in [*lower, name]}
        self._names = sorted(self._under)

    def __iter__(self):
        """Go through the names of the versions, ascending."""
        return iter(self._names)

    def names(self):
        """Return the ascending list of the names of the versions."""
        return list(self._names)

    def has(self, name):
        """Return True if there is a version with this name, otherwise False."""
        return name in self._under

    def under(self, name):
        """Return the ascending list of the versions under a version, itself included."""
        self.check_known(name)
        return sorted(self._under[name])

    def is_under(self, low, high):
        """Return True if version low is under version high, otherwise False."""
        self.check_known(low)
        self.check_known(high)
        return low in self._under[high]

    def nearest(self, name):
        """Return the ascending list of the nearest versions of a version."""
        self.check_known(name)
        return self.highest([low for low in self._under[name] if low != name])

    def checked(self, names):
        """Return a new list equal to the names; raise Unknown or Repeated at the first wrong one."""
        found = {}
        for name in names:
            self.check_known(name)
            if name in found:
                raise Repeated(name)
            found[name] = True
        return list(found)

    def copied(self):
        """Return another order with the same versions."""
        other = Order()
        other._names = list(self._names)
        # The dicts inside are never changed, so both orders may have them.
        other._under = dict(self._under)
        return other

    def under_group(self, names):
        """Return the list of the versions under a group, in the order of their puts."""
        lower = {}
        for name in names:
            lower.update(self._under[name])
        return [low for low in self._under if low in lower]

    def above_group(self, names):
        """Return the list of the versions under which a member of a group lies, in the order of their puts."""
        return [high for high in self._under if any([name in self._under[high] for name in names])]

    def highest(self, names):
        """Return the ascending list of the maximal ones of versions that stand in the order of their puts."""
        found = []
        left = names
        while left:
            # What was put last is under nothing that was put before it, so it is maximal.
            top = left[-1]
            lower = self._under[top]
            found.append(top)
            left = [name for name in left if name not in lower]
        return sorted(found)

    def lowest(self, names):
        """Return the ascending list of the minimal ones of versions that stand in the order of their puts."""
        found = []
        left = names
        while left:
            # Nothing that was put later is under what was put first, so it is minimal.
            bottom = left[0]
            found.append(bottom)
            left = [name for name in left if bottom not in self._under[name]]
        return sorted(found)

    def check_known(self, name):
        """Raise Unknown if there is no version with this name."""
        if name not in self._under:
            raise Unknown(name)

    def check_new(self, name):
        """Raise BadName or Taken unless a version with this name can be added."""
        if not is_name(name):
            raise BadName(name)
        if name in self._under:
            raise Taken(name)
