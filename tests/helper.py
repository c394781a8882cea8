"""What the document says, told once more and slowly, for the tests to look at the program by."""

from itertools import combinations


def all_partings(points):
    """Every parting of so many points, crossing ones too."""
    partings = [[]]
    for point in range(points):
        longer = []
        for blocks in partings:
            for place in range(len(blocks)):
                grown = [list(block) for block in blocks]
                grown[place].append(point)
                longer.append(grown)
            longer.append([list(block) for block in blocks] + [[point]])
        partings = longer
    return partings


def crosses_at(blocks, four):
    """Whether the four points are a crossing of the blocks."""
    a, b, c, d = four
    if not a < b < c < d:
        return False
    return any(
        a in one and c in one and b in other and d in other
        for one in blocks
        for other in blocks
        if one is not other
    )


def is_free(points, blocks):
    return not any(crosses_at(blocks, four) for four in combinations(range(points), 4))


def free_partings(points):
    return [blocks for blocks in all_partings(points) if is_free(points, blocks)]


def lies_below(one, other):
    return all(any(set(block) <= set(wide) for wide in other) for block in one)


def next_points(points, blocks):
    """Point by point the one that follows in its block, and of a block's last one its first."""
    following = {}
    for block in blocks:
        following.update(zip(block, block[1:] + block[:1]))
    return [following[point] for point in range(points)]


def alone(points):
    return [[point] for point in range(points)]


def together(points):
    return [list(range(points))] if points else []


# Numbers of points and crossing partings of them.
CROSSING = [
    (4, [[0, 2], [1, 3]]),
    (5, [[0, 2, 4], [1, 3]]),
    (5, [[0], [1, 3], [2, 4]]),
    (5, [[0, 3], [1], [2, 4]]),
    (6, [[0, 1, 2, 4], [3, 5]]),
    (6, [[0, 3], [1, 4], [2, 5]]),
    (7, [[0, 6], [1, 3], [2, 4], [5]]),
    (10, [[0, 8], [1], [2], [3], [4], [5], [6], [7, 9]]),
    (10, [[0, 2, 4, 6, 8], [1, 3, 5, 7, 9]]),
    (10, [[0], [1], [2], [3], [4], [5], [6, 8], [7, 9]]),
]

# Numbers of points and free partings of them.
FREE = [
    (0, []),
    (1, [[0]]),
    (3, [[0, 2], [1]]),
    (4, [[0, 3], [1, 2]]),
    (4, [[0, 1], [2, 3]]),
    (6, [[0, 1, 5], [2, 4], [3]]),
    (10, [[0, 9], [1, 8], [2, 7], [3, 6], [4, 5]]),
    (10, [[0, 3, 6, 9], [1, 2], [4, 5], [7, 8]]),
    (10, alone(10)),
    (10, together(10)),
]

# A number of points and blocks that are no parting of them, each with what is wrong.
NO_PARTINGS = [
    ("negative number of points, no blocks", -1, []),
    ("very negative number of points", -100, []),
    ("negative number of points, a block", -1, [[0]]),
    ("11 points", 11, [[point] for point in range(11)]),
    ("11 points in one block", 11, [list(range(11))]),
    ("100 points", 100, [list(range(100))]),
    ("no points, an empty block", 0, [[]]),
    ("no points, a block", 0, [[0]]),
    ("points, but no blocks", 1, []),
    ("an empty block alone", 1, [[]]),
    ("an empty block ahead", 2, [[], [0, 1]]),
    ("an empty block within", 2, [[0], [], [1]]),
    ("an empty block at the end", 2, [[0, 1], []]),
    ("a point twice in a block", 2, [[0, 0, 1]]),
    ("the last point twice in a block", 2, [[0, 1, 1]]),
    ("a point in two blocks", 3, [[0, 1], [1, 2]]),
    ("a block twice", 2, [[0, 1], [0, 1]]),
    ("a lone point twice", 1, [[0], [0]]),
    ("the first point left out", 3, [[1, 2]]),
    ("a point within left out", 3, [[0], [2]]),
    ("the last point left out", 3, [[0, 1]]),
    ("one left out, another twice", 3, [[0, 1], [1]]),
    ("a falling block", 2, [[1, 0]]),
    ("a block that falls at the end", 4, [[0, 1, 3, 2]]),
    ("a block that falls ahead", 4, [[1, 0, 2, 3]]),
    ("the second block falls", 3, [[0], [2, 1]]),
    ("blocks out of order", 2, [[1], [0]]),
    ("later blocks out of order", 4, [[0], [2], [1, 3]]),
    ("blocks in the order of their last points", 3, [[1], [0, 2]]),
    ("a point beyond the last", 2, [[0, 2]]),
    ("one point more than there are", 2, [[0], [1], [2]]),
    ("a negative point", 2, [[-1, 0, 1]]),
    ("a negative point in the place of the last", 2, [[-1, 0]]),
    ("a negative point alone", 1, [[-1], [0]]),
    ("numbers far off", 2, [[-100, 100]]),
    ("forty blocks", 10, [[point] for point in range(40)]),
    ("crossing, with a point left out", 5, [[0, 2], [1, 3]]),
    ("crossing, with blocks out of order", 4, [[1, 3], [0, 2]]),
    ("crossing, with 11 points", 11, [[0, 2, 4, 5, 6, 7, 8, 9, 10], [1, 3]]),
]
