"""Maximal versions, common versions and merge bases."""


def maximal(order, names):
    """Return the ascending list of the maximal ones of a list of versions."""
    # Whatever else is under the list is under another version, so it adds no maximal one.
    return order.highest(order.under_group(order.checked(names)))


def common(order, ones, others):
    """Return the ascending list of the common versions of two groups."""
    return sorted(_shared(order, order.checked(ones), order.checked(others)))


def group_bases(order, ones, others):
    """Return the ascending list of the merge bases of two groups."""
    return order.highest(_shared(order, order.checked(ones), order.checked(others)))


def merge_bases(order, one, other):
    """Return the ascending list of the merge bases of two versions."""
    return group_bases(order, [one], [other])


def _shared(order, ones, others):
    """Return the list of the common versions of two groups in the order of their puts."""
    lower = {name: True for name in order.under_group(others)}
    return [name for name in order.under_group(ones) if name in lower]
