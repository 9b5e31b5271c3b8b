"""Which wagons are in the way of an order, and which roads, entries and exits are spare."""

from cellyards.comparing import within
from cellyards.orders import check_order, ranks_of
from cellyards.sets import Sets
from cellyards.yards import check_yard


def in_the_way(yard, order):
    """None if a yard makes an order, otherwise the places of some wagons that are in the way."""
    check_yard(yard)
    check_order(order)
    sets = Sets(yard)
    kept = list(range(len(order)))
    if _is_made(sets, order, kept):
        return None
    # Once a wagon cannot be left out, it cannot be later: fewer wagons are never harder to order.
    for place in range(len(order)):
        fewer = [other for other in kept if other != place]
        if not _is_made(sets, order, fewer):
            kept = fewer
    return tuple(kept)


def _is_made(sets, order, places):
    """Whether the yard makes the order that comes by leaving all wagons but those at some places out."""
    wagons = [order[place] for place in places]
    known = sorted(wagons)
    few = tuple([known.index(wagon) + 1 for wagon in wagons])
    return sets.after(ranks_of(few)) is not None


def spare_roads(yard):
    """The rising tuple of the roads that are spare."""
    check_yard(yard)
    return tuple([(x, y) for x, y in yard.roads if _makes_all(yard.without_road(x, y), yard)])


def spare_entries(yard):
    """The rising tuple of the entries that are spare."""
    check_yard(yard)
    return tuple([x for x in yard.entries if _makes_all(yard.without_entry(x), yard)])


def spare_exits(yard):
    """The rising tuple of the exits that are spare."""
    check_yard(yard)
    return tuple([x for x in yard.exits if _makes_all(yard.without_exit(x), yard)])


def _makes_all(less, yard):
    """Whether a yard with something left out is alike: it makes nothing more in any case."""
    return within(yard, less) is None
