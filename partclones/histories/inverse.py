"""Group reaches, and the tally that they tell."""

from partclones.errors import TooMany
from partclones.histories.tally import count_under

MOST_VERSIONS = 6


def group_reaches(order, tally):
    """Return the list of the pairs of a group and its reach, by ascending groups."""
    _check_size(order)
    return [(group, count_under(order, tally, group)) for group in _groups(order)]


def tally_from(order, reaches):
    """Return the tally of the histories with an order and these group reaches."""
    _check_size(order)
    names = order.names()
    lost = {group: reach - len(order.under_group(group)) for group, reach in reaches}
    lost[()] = 0
    numbers = {}
    for roof in _roofs(order):
        outside = tuple([name for name in names if name not in roof])
        # A forgotten version is under nothing outside exactly if the roof of its kind is within this roof.
        smaller = [numbers[low] for low in numbers if all([name in roof for name in low])]
        numbers[roof] = lost[tuple(names)] - lost[outside] - sum(smaller)
    tally = [(tuple(order.lowest(roof)), numbers[roof]) for roof in numbers if numbers[roof] > 0]
    return tuple(sorted(tally))


def _check_size(order):
    """Raise TooMany if the order has too many versions for all groups to be listed."""
    if len(order.names()) > MOST_VERSIONS:
        raise TooMany()


def _groups(order):
    """Return the ascending list of the groups of at least one version, as ascending tuples."""
    groups = [()]
    for name in order:
        groups = groups + [(*group, name) for group in groups]
    return sorted(groups)[1:]


def _roofs(order):
    """Return the list of all that lies above some group, smaller ones first."""
    roofs = [tuple(order.above_group(group)) for group in _groups(order)]
    return [roof for _, roof in sorted({(len(roof), roof) for roof in roofs})]
