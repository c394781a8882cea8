"""Partings of the points of a ring: what they are, where they cross, and their orders."""

from nocrossing.errors import Crossing, NoParting

MOST_POINTS = 10


def rises(numbers):
    return all([low < high for low, high in zip(numbers, numbers[1:])])


def points_in(blocks):
    told = []
    for block in blocks:
        told.extend(block)
    return told


def is_parting(points, blocks):
    # A negative number would pass for 0 points further down, since its range is empty too.
    if points < 0 or points > MOST_POINTS:
        return False
    if not all([len(block) > 0 and rises(block) for block in blocks]):
        return False
    if not rises([block[0] for block in blocks]):
        return False
    return sorted(points_in(blocks)) == list(range(points))


def refuse_no_parting(points, blocks):
    if not is_parting(points, blocks):
        raise NoParting("the blocks are no parting of so many points")


def block_places(points, blocks):
    # Point by point the place of its block: two points share a block just where their places are equal.
    places = [0] * points
    for place, block in enumerate(blocks):
        for point in block:
            places[point] = place
    return places


def blocks_by(labels):
    # A dict keeps its keys as they came, so the blocks stand in the order of their first points.
    blocks = {}
    for point, label in enumerate(labels):
        if label not in blocks:
            blocks[label] = []
        blocks[label].append(point)
    return list(blocks.values())


def first_crossing(labels):
    # With 10 points there are only 210 such fours, so each one is simply looked at.
    points = len(labels)
    for a in range(points):
        for b in range(a + 1, points):
            for c in range(b + 1, points):
                for d in range(c + 1, points):
                    if labels[a] == labels[c] and labels[b] == labels[d] and labels[a] != labels[b]:
                        return (a, b, c, d)
    return None


def crossing(points, blocks):
    refuse_no_parting(points, blocks)
    return first_crossing(block_places(points, blocks))


def refuse_crossing(points, blocks):
    found = first_crossing(block_places(points, blocks))
    if found is not None:
        raise Crossing(found)


def refuse_unless_free(points, blocks):
    refuse_no_parting(points, blocks)
    refuse_crossing(points, blocks)


def order_of(points, blocks):
    refuse_unless_free(points, blocks)
    order = [0] * points
    for block in blocks:
        for place, point in enumerate(block):
            order[point] = block[(place + 1) % len(block)]
    return order
