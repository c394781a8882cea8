"""Points [1], [2], [3] and [6]: nocrossing.partings."""

import unittest
from itertools import product

from helper import CROSSING, FREE, NO_PARTINGS, all_partings, alone, crosses_at, is_free, together
from nocrossing.errors import Crossing, NoParting
from nocrossing.partings import crossing, is_parting, order_of

BELL = [1, 1, 2, 5, 15, 52, 203, 877]
CATALAN = [1, 1, 2, 5, 14, 42, 132, 429]


class IsPartingTest(unittest.TestCase):
    def test_partings(self):
        for points, blocks in FREE + CROSSING:
            with self.subTest(points=points, blocks=blocks):
                self.assertIs(is_parting(points, blocks), True)

    def test_no_partings(self):
        for why, points, blocks in NO_PARTINGS:
            with self.subTest(why):
                self.assertIs(is_parting(points, blocks), False)

    def test_each_number_of_points(self):
        for points in range(-100, 101):
            with self.subTest(points=points):
                self.assertIs(is_parting(points, alone(points)), 0 <= points <= 10)

    def test_every_parting_of_few_points(self):
        for points in range(8):
            partings = all_partings(points)
            self.assertEqual(len(partings), BELL[points])
            for blocks in partings:
                self.assertIs(is_parting(points, blocks), True, blocks)

    def test_nothing_else_is_a_parting(self):
        for points, numbers, longest in ((0, (-1, 0), 2), (1, (-1, 0, 1), 2), (2, (-1, 0, 1, 2), 2), (3, (0, 1, 2), 3)):
            partings = all_partings(points)
            some_blocks = [list(block) for size in range(longest + 1) for block in product(numbers, repeat=size)]
            for size in range(4):
                for blocks in product(some_blocks, repeat=size):
                    if is_parting(points, list(blocks)) is not (list(blocks) in partings):
                        self.fail(f"{points} points, {list(blocks)}")


class CrossingTest(unittest.TestCase):
    def test_a_crossing_is_told(self):
        for points, blocks in CROSSING:
            with self.subTest(points=points, blocks=blocks):
                told = crossing(points, blocks)
                self.assertIs(type(told), tuple)
                self.assertTrue(crosses_at(blocks, told), told)

    def test_the_only_crossing_is_told(self):
        self.assertEqual(crossing(4, [[0, 2], [1, 3]]), (0, 1, 2, 3))
        self.assertEqual(crossing(5, [[0], [1, 3], [2, 4]]), (1, 2, 3, 4))
        self.assertEqual(crossing(10, [[0, 8], [1], [2], [3], [4], [5], [6], [7, 9]]), (0, 7, 8, 9))

    def test_free_ones_have_none(self):
        for points, blocks in FREE:
            with self.subTest(points=points, blocks=blocks):
                self.assertIsNone(crossing(points, blocks))

    def test_every_parting_of_few_points(self):
        for points in range(8):
            free = 0
            for blocks in all_partings(points):
                told = crossing(points, blocks)
                if told is None:
                    free += 1
                    self.assertTrue(is_free(points, blocks), blocks)
                else:
                    self.assertTrue(crosses_at(blocks, told), (blocks, told))
            self.assertEqual(free, CATALAN[points])

    def test_no_parting_is_refused(self):
        for why, points, blocks in NO_PARTINGS:
            with self.subTest(why), self.assertRaises(NoParting):
                crossing(points, blocks)


class OrderTest(unittest.TestCase):
    def test_orders(self):
        for points, blocks, order in (
            (0, [], []),
            (1, [[0]], [0]),
            (2, [[0, 1]], [1, 0]),
            (3, [[0], [1], [2]], [0, 1, 2]),
            (4, [[0, 2], [1], [3]], [2, 1, 0, 3]),
            (6, [[0, 1, 5], [2, 4], [3]], [1, 5, 4, 3, 2, 0]),
            (10, together(10), [1, 2, 3, 4, 5, 6, 7, 8, 9, 0]),
            (10, alone(10), list(range(10))),
            (10, [[0, 3, 6, 9], [1, 2], [4, 5], [7, 8]], [3, 2, 1, 6, 5, 4, 9, 8, 7, 0]),
        ):
            with self.subTest(points=points, blocks=blocks):
                told = order_of(points, blocks)
                self.assertIs(type(told), list)
                self.assertEqual(told, order)

    def test_every_free_parting_of_few_points(self):
        for points in range(8):
            for blocks in all_partings(points):
                if is_free(points, blocks):
                    order = order_of(points, blocks)
                    self.assertEqual(len(order), points)
                    for block in blocks:
                        self.assertEqual([order[point] for point in block], block[1:] + block[:1])

    def test_crossing_is_refused(self):
        for points, blocks in CROSSING:
            with self.subTest(points=points, blocks=blocks):
                with self.assertRaises(Crossing) as taken:
                    order_of(points, blocks)
                self.assertIs(type(taken.exception.points), tuple)
                self.assertTrue(crosses_at(blocks, taken.exception.points))

    def test_no_parting_is_refused_ahead_of_crossing(self):
        for why, points, blocks in NO_PARTINGS:
            with self.subTest(why), self.assertRaises(NoParting):
                order_of(points, blocks)


class OwnTest(unittest.TestCase):
    def test_the_order_is_the_askers_own(self):
        blocks = [[0, 1, 2]]
        order = order_of(3, blocks)
        self.assertIsNot(order, blocks[0])
        blocks[0].append(3)
        self.assertEqual(order, [1, 2, 0])
        order.append(7)
        self.assertEqual(order_of(3, [[0, 1, 2]]), [1, 2, 0])

    def test_blocks_may_be_changed_between_two_askings(self):
        blocks = [[0, 2], [1, 3]]
        self.assertEqual(crossing(4, blocks), (0, 1, 2, 3))
        blocks[0] = [0, 1]
        self.assertIs(is_parting(4, blocks), False)
        blocks[1] = [2, 3]
        self.assertIsNone(crossing(4, blocks))
        self.assertEqual(order_of(4, blocks), [1, 0, 3, 2])


if __name__ == "__main__":
    unittest.main()
