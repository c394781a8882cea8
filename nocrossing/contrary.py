"""The contrary partings of free ones, and free partings turned by one point."""

from nocrossing.partings import block_places, blocks_by, order_of, refuse_unless_free


def order_back(order):
    back = [0] * len(order)
    for point, following in enumerate(order):
        back[following] = point
    return back


def round_labels(order):
    # Who goes on from point to next point comes round through just one block, so it bears its first point's number.
    labels = [None] * len(order)
    for start in range(len(order)):
        point = start
        while labels[point] is None:
            labels[point] = start
            point = order[point]
    return labels


def contrary(points, blocks):
    # The contrary's next point must be the one from which the parting leads to the point behind: a step on along
    # the ring, then one back by the parting.
    back = order_back(order_of(points, blocks))
    return blocks_by(round_labels(back[1:] + back[:1]))


def turned(points, blocks):
    refuse_unless_free(points, blocks)
    places = block_places(points, blocks)
    return blocks_by(places[1:] + places[:1])
