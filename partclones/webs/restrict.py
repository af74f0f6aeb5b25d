"""Restrictions of orders."""

from partclones.webs.order import Order


def restricted(order, names):
    """Return the restriction of an order to a list of versions, a new order."""
    members = order.checked(names)
    result = Order()
    # In the order of the puts each version comes behind all versions under it.
    for name in order.under_group(members):
        if name in members:
            result.put(name, [low for low in result.names() if order.is_under(low, name)])
    return result
