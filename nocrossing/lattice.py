"""Which partings lie below others, and free partings met and joined."""

from nocrossing.partings import block_places, blocks_by, first_crossing, refuse_crossing, refuse_no_parting


def lies_within(block, places):
    return all([places[point] == places[block[0]] for point in block])


def below(points, one, other):
    refuse_no_parting(points, one)
    refuse_no_parting(points, other)
    places = block_places(points, other)
    return all([lies_within(block, places) for block in one])


def refuse_unless_both_free(points, one, other):
    # Both are asked whether they are partings before either is asked whether it crosses.
    refuse_no_parting(points, one)
    refuse_no_parting(points, other)
    refuse_crossing(points, one)
    refuse_crossing(points, other)


def met(points, one, other):
    # Blocks told so can't cross: two that did would come from unlike blocks of one or of other, which cross too.
    refuse_unless_both_free(points, one, other)
    return blocks_by(list(zip(block_places(points, one), block_places(points, other))))


def made_one(labels, kept, gone):
    return [kept if label == gone else label for label in labels]


def made_free(labels):
    # A free parting above this one must hold two crossing blocks in one, so no merging here goes too far.
    found = first_crossing(labels)
    while found is not None:
        labels = made_one(labels, labels[found[0]], labels[found[1]])
        found = first_crossing(labels)
    return labels


def joined(points, one, other):
    refuse_unless_both_free(points, one, other)
    labels = block_places(points, one)
    for block in other:
        for point in block:
            labels = made_one(labels, labels[block[0]], labels[point])
    return blocks_by(made_free(labels))
