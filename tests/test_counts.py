"""Points [9], [10] and [11]: nocrossing.counts."""

import unittest
from functools import cmp_to_key
from itertools import combinations

from helper import alone, free_partings, is_free, together
from nocrossing.counts import many, many_of, number_of, parting_at, ways_up
from nocrossing.errors import NoNumber, NoParting

CATALAN = [1, 1, 2, 5, 14, 42, 132, 429, 1430, 4862, 16796]
NO_RINGS = [-100, -99, -2, -1, 11, 12, 99, 100]
THIRTY_FIGURES = 10**30 - 1

# The free partings in their order, by their numbers.
IN_ORDER = {
    0: [[]],
    1: [[[0]]],
    2: [[[0, 1]], [[0], [1]]],
    3: [[[0, 1, 2]], [[0, 1], [2]], [[0, 2], [1]], [[0], [1, 2]], [[0], [1], [2]]],
    4: [
        [[0, 1, 2, 3]],
        [[0, 1, 2], [3]],
        [[0, 1, 3], [2]],
        [[0, 1], [2, 3]],
        [[0, 1], [2], [3]],
        [[0, 2, 3], [1]],
        [[0, 2], [1], [3]],
        [[0, 3], [1, 2]],
        [[0], [1, 2, 3]],
        [[0], [1, 2], [3]],
        [[0, 3], [1], [2]],
        [[0], [1, 3], [2]],
        [[0], [1], [2, 3]],
        [[0], [1], [2], [3]],
    ],
}


def place_of(blocks, point):
    return [point in block for block in blocks].index(True)


def stands(points, one, other):
    """Below nought where one stands ahead of other, nought where they are the same."""
    for point in range(points):
        if place_of(one, point) != place_of(other, point):
            return place_of(one, point) - place_of(other, point)
    return 0


def steps_from(points, blocks):
    """The free partings made of this one by two of its blocks made one."""
    for one, other in combinations(blocks, 2):
        rest = [block for block in blocks if block not in (one, other)]
        made = sorted(rest + [sorted(one + other)])
        if is_free(points, made):
            yield made


def ways_gone(points):
    """How many ways up lead to each free parting, each way gone by itself from the start."""
    ways = {}

    def go_on(blocks):
        ways[str(blocks)] = ways.get(str(blocks), 0) + 1
        for made in steps_from(points, blocks):
            go_on(made)

    go_on(alone(points))
    return ways


class ManyTest(unittest.TestCase):
    def test_each_number_of_points(self):
        for points in range(11):
            with self.subTest(points=points):
                self.assertIs(type(many(points)), int)
                self.assertEqual(many(points), CATALAN[points])

    def test_against_all_free_partings(self):
        for points in range(9):
            self.assertEqual(many(points), len(free_partings(points)))

    def test_other_numbers_of_points_are_refused(self):
        for points in NO_RINGS:
            with self.subTest(points=points), self.assertRaises(NoNumber):
                many(points)


class ManyOfTest(unittest.TestCase):
    def test_against_all_free_partings(self):
        for points in range(9):
            blocks_of_each = [len(blocks) for blocks in free_partings(points)]
            for count in range(21):
                with self.subTest(points=points, count=count):
                    self.assertIs(type(many_of(points, count)), int)
                    self.assertEqual(many_of(points, count), blocks_of_each.count(count))

    def test_no_points(self):
        self.assertEqual([many_of(0, count) for count in range(21)], [1] + [0] * 20)

    def test_one_point(self):
        self.assertEqual([many_of(1, count) for count in range(21)], [0, 1] + [0] * 19)

    def test_ten_points(self):
        told = [many_of(10, count) for count in range(21)]
        self.assertEqual(told, [0, 1, 45, 540, 2520, 5292, 5292, 2520, 540, 45, 1] + [0] * 10)

    def test_all_counts_together_are_many(self):
        for points in range(11):
            self.assertEqual(sum(many_of(points, count) for count in range(21)), many(points))

    def test_counts_beyond_are_not_refused(self):
        for points in range(11):
            for count in (-100, -2, -1, 11, 20, 21, 22, 100):
                with self.subTest(points=points, count=count):
                    self.assertEqual(many_of(points, count), 0)

    def test_other_numbers_of_points_are_refused(self):
        for points in NO_RINGS:
            for count in (-1, 0, 1, 5, 11, 20, 21):
                with self.subTest(points=points, count=count), self.assertRaises(NoNumber):
                    many_of(points, count)


class WaysUpTest(unittest.TestCase):
    def test_some(self):
        for points, blocks, ways in (
            (0, [], 1),
            (1, [[0]], 1),
            (2, [[0], [1]], 1),
            (2, [[0, 1]], 1),
            (3, [[0, 1, 2]], 3),
            (3, [[0, 2], [1]], 1),
            (4, [[0, 1], [2, 3]], 2),
            (4, [[0, 3], [1, 2]], 2),
            (4, [[0, 1, 2, 3]], 16),
            (5, [[0, 1, 4], [2, 3]], 9),
            (6, [[0, 1, 2], [3, 4, 5]], 54),
            (10, [[0, 9], [1, 8], [2, 7], [3, 6], [4, 5]], 120),
            (10, [[0, 3, 6, 9], [1, 2], [4, 5], [7, 8]], 1920),
            (10, [[0, 1, 2, 3, 4], [5, 6, 7, 8, 9]], 70 * 125 * 125),
            (10, [[0, 2, 3, 4, 5, 6, 7, 8, 9], [1]], 9**7),
            (10, alone(10), 1),
            (10, together(10), 10**8),
        ):
            with self.subTest(points=points, blocks=blocks):
                told = ways_up(points, blocks)
                self.assertIs(type(told), int)
                self.assertEqual(told, ways)

    def test_against_the_ways_that_are_gone(self):
        for points in range(7):
            ways = ways_gone(points)
            free = free_partings(points)
            self.assertEqual(len(ways), len(free))
            for blocks in free:
                self.assertEqual(ways_up(points, blocks), ways[str(blocks)], blocks)


class NumbersTest(unittest.TestCase):
    def test_in_the_order_written_out(self):
        for points, partings in IN_ORDER.items():
            for number, blocks in enumerate(partings):
                with self.subTest(points=points, number=number):
                    self.assertEqual(parting_at(points, number), blocks)
                    self.assertEqual(number_of(points, blocks), number)

    def test_in_the_documents_order(self):
        for points in range(9):
            ahead = cmp_to_key(lambda one, other: stands(points, one, other))
            for number, blocks in enumerate(sorted(free_partings(points), key=ahead)):
                self.assertEqual(parting_at(points, number), blocks)
                self.assertEqual(number_of(points, blocks), number)

    def test_every_number_of_ten_points(self):
        last = parting_at(10, 0)
        for number in range(CATALAN[10]):
            blocks = parting_at(10, number)
            self.assertTrue(number == 0 or stands(10, last, blocks) < 0, (last, blocks))
            # number_of refuses what is no parting or crosses.
            self.assertEqual(number_of(10, blocks), number)
            last = blocks

    def test_the_first_and_the_last(self):
        for points in range(11):
            with self.subTest(points=points):
                last = CATALAN[points] - 1
                self.assertEqual(parting_at(points, 0), together(points))
                self.assertEqual(parting_at(points, last), alone(points))
                self.assertIs(type(number_of(points, together(points))), int)
                self.assertEqual(number_of(points, together(points)), 0)
                self.assertEqual(number_of(points, alone(points)), last)

    def test_a_number_that_none_has_is_refused(self):
        for points in range(11):
            beyond = CATALAN[points]
            for number in (-1, -2, -beyond, beyond, beyond + 1, 2 * beyond, THIRTY_FIGURES, -THIRTY_FIGURES, 10**29):
                with self.subTest(points=points, number=number), self.assertRaises(NoNumber):
                    parting_at(points, number)

    def test_other_numbers_of_points_are_refused(self):
        for points in NO_RINGS:
            for number in (-1, 0, 1, CATALAN[10], THIRTY_FIGURES, -THIRTY_FIGURES):
                with self.subTest(points=points, number=number), self.assertRaises(NoNumber):
                    parting_at(points, number)

    def test_points_beyond_are_no_parting_where_blocks_are_handed_in(self):
        for points in NO_RINGS:
            for ask in (ways_up, number_of):
                with self.subTest(points=points, ask=ask.__name__), self.assertRaises(NoParting):
                    ask(points, alone(points))


class OwnTest(unittest.TestCase):
    def test_a_told_parting_may_be_changed(self):
        for points, number in ((0, 0), (1, 0), (4, 6), (10, 0), (10, 4000), (10, 16795)):
            with self.subTest(points=points, number=number):
                told, again = parting_at(points, number), parting_at(points, number)
                lists = [told, again] + told + again
                self.assertEqual(len({id(each) for each in lists}), len(lists))
                for block in told:
                    block.append(99)
                told.append([7])
                self.assertEqual(parting_at(points, number), again)


if __name__ == "__main__":
    unittest.main()
