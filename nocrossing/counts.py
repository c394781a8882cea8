"""How many free partings there are, their numbers, and the ways up to them."""

from nocrossing.errors import NoNumber
from nocrossing.partings import MOST_POINTS, block_places, blocks_by, refuse_unless_free


def refuse_points(points):
    if points < 0 or points > MOST_POINTS:
        raise NoNumber("there are no free partings of so many points")


def endings(points):
    # endings(points)[rest][opened] tells in how many ways the last points, rest of them, can be put into blocks
    # where opened blocks can still be joined. A point that joins one of these shuts all that were begun behind it,
    # so 1 to opened of them are left to be joined; a point that begins a block of its own makes them one more.
    table = [[1] * (points + 1)]
    for rest in range(1, points + 1):
        fewer = table[rest - 1]
        table.append([sum(fewer[1:opened + 2]) for opened in range(points - rest + 1)])
    return table


def many(points):
    refuse_points(points)
    return endings(points)[points][0]


def choices(things, chosen):
    ways = 1
    for taken in range(chosen):
        # The product is taken + 1 times the ways to choose one more, so the division leaves nothing over.
        ways = ways * (things - taken) // (taken + 1)
    return ways


def many_of(points, count):
    refuse_points(points)
    if points == 0:
        return 1 if count == 0 else 0
    if count < 1 or count > points:
        return 0
    # The numbers of Narayana: known in closed form, so no parting has to be walked through.
    return choices(points, count) * choices(points, count - 1) // points


def ways_within(size):
    # size to the power size - 2; of a lone point there is the one way with no step.
    ways = 1
    for factor in [size] * (size - 2):
        ways = ways * factor
    return ways


def ways_up(points, blocks):
    refuse_unless_free(points, blocks)
    ways = 1
    steps = 0
    for block in blocks:
        # The block's own steps may take any places among them and all steps of the blocks ahead.
        steps = steps + len(block) - 1
        ways = ways * choices(steps, len(block) - 1) * ways_within(len(block))
    return ways


def parting_at(points, number):
    refuse_points(points)
    table = endings(points)
    if number < 0 or number >= table[points][0]:
        raise NoNumber("no free parting of so many points has this number")
    labels = []
    opened = []
    ahead = number
    for point in range(points):
        row = table[points - point - 1]
        choice = 0
        while ahead >= row[choice + 1]:
            ahead = ahead - row[choice + 1]
            choice = choice + 1
        # Blocks are labelled by their first points; the choice behind all opened ones is a block of its own.
        opened = (opened + [point])[:choice + 1]
        labels.append(opened[choice])
    return blocks_by(labels)


def number_of(points, blocks):
    refuse_unless_free(points, blocks)
    table = endings(points)
    opened = []
    number = 0
    for point, place in enumerate(block_places(points, blocks)):
        # All partings that are the same so far and have this point in a block of a lesser place stand ahead.
        choice = len([each for each in opened if each < place])
        number = number + sum(table[points - point - 1][1:choice + 1])
        opened = opened[:choice] + [place]
    return number
