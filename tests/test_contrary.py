"""Points [7] and [8]: nocrossing.contrary."""

import unittest

from helper import FREE, alone, free_partings, lies_below, next_points, together
from nocrossing.contrary import contrary, turned
from nocrossing.lattice import joined, met

# points, a parting, its contrary, it turned
SOME = [
    (0, [], [], []),
    (1, [[0]], [[0]], [[0]]),
    (2, [[0], [1]], [[0, 1]], [[0], [1]]),
    (2, [[0, 1]], [[0], [1]], [[0, 1]]),
    (3, [[0, 1], [2]], [[0], [1, 2]], [[0, 2], [1]]),
    (3, [[0], [1, 2]], [[0, 2], [1]], [[0, 1], [2]]),
    (3, [[0, 2], [1]], [[0, 1], [2]], [[0], [1, 2]]),
    (4, [[0, 2], [1], [3]], [[0, 1], [2, 3]], [[0], [1, 3], [2]]),
    (4, [[0, 1], [2, 3]], [[0], [1, 3], [2]], [[0, 3], [1, 2]]),
    (4, [[0, 3], [1, 2]], [[0, 2], [1], [3]], [[0, 1], [2, 3]]),
    (6, [[0, 1, 5], [2, 4], [3]], [[0], [1, 4], [2, 3], [5]], [[0, 4, 5], [1, 3], [2]]),
    (
        10,
        [[0, 9], [1, 8], [2, 7], [3, 6], [4, 5]],
        [[0, 8], [1, 7], [2, 6], [3, 5], [4], [9]],
        [[0, 7], [1, 6], [2, 5], [3, 4], [8, 9]],
    ),
    (
        10,
        [[0, 3, 6, 9], [1, 2], [4, 5], [7, 8]],
        [[0, 2], [1], [3, 5], [4], [6, 8], [7], [9]],
        [[0, 1], [2, 5, 8, 9], [3, 4], [6, 7]],
    ),
]


def is_contrary(points, blocks, other):
    """Whether one comes from each point by the other, then by the blocks, to the point behind it."""
    by_blocks, by_other = next_points(points, blocks), next_points(points, other)
    return all(by_blocks[by_other[point]] == (point + 1) % points for point in range(points))


def one_less(points, blocks):
    return sorted(sorted((point - 1) % points for point in block) for block in blocks)


class ContraryTest(unittest.TestCase):
    def test_some(self):
        for points, blocks, answer, less in SOME:
            with self.subTest(points=points, blocks=blocks):
                self.assertEqual(contrary(points, blocks), answer)

    def test_all_alone_and_all_together(self):
        for points in range(11):
            with self.subTest(points=points):
                self.assertEqual(contrary(points, alone(points)), together(points))
                self.assertEqual(contrary(points, together(points)), alone(points))

    def test_it_is_the_only_contrary_of_few_points(self):
        for points in range(7):
            free = free_partings(points)
            for blocks in free:
                contraries = [other for other in free if is_contrary(points, blocks, other)]
                self.assertEqual([contrary(points, blocks)], contraries, blocks)

    def test_every_free_parting_leads_to_the_point_behind(self):
        for points in range(9):
            free = free_partings(points)
            told = [contrary(points, blocks) for blocks in free]
            for blocks, other in zip(free, told):
                self.assertTrue(is_contrary(points, blocks, other), (blocks, other))
            self.assertEqual(sorted(told), sorted(free))

    def test_the_contrary_of_the_contrary(self):
        for points in range(9):
            for blocks in free_partings(points):
                twice = contrary(points, contrary(points, blocks))
                self.assertEqual(twice, one_less(points, blocks))
                self.assertEqual(twice, turned(points, blocks))

    def test_one_block_more_than_points(self):
        self.assertEqual(contrary(0, []), [])
        for points in range(1, 9):
            for blocks in free_partings(points):
                self.assertEqual(len(blocks) + len(contrary(points, blocks)), points + 1, blocks)

    def test_the_edge_of_ten_points(self):
        for points, blocks in FREE:
            if points == 10:
                with self.subTest(blocks=blocks):
                    other = contrary(10, blocks)
                    self.assertTrue(is_contrary(10, blocks, other))
                    self.assertEqual(contrary(10, other), one_less(10, blocks))
                    self.assertEqual(len(blocks) + len(other), 11)

    def test_below_is_turned_round(self):
        for points in range(7):
            free = free_partings(points)
            contraries = [contrary(points, blocks) for blocks in free]
            for one, contrary_of_one in zip(free, contraries):
                for other, contrary_of_other in zip(free, contraries):
                    self.assertIs(lies_below(contrary_of_other, contrary_of_one), lies_below(one, other), (one, other))

    def test_two_met_and_two_joined(self):
        for points in range(6):
            free = free_partings(points)
            for one in free:
                for other in free:
                    first, second = contrary(points, one), contrary(points, other)
                    self.assertEqual(contrary(points, met(points, one, other)), joined(points, first, second))
                    self.assertEqual(contrary(points, joined(points, one, other)), met(points, first, second))


class TurnedTest(unittest.TestCase):
    def test_some(self):
        for points, blocks, answer, less in SOME:
            with self.subTest(points=points, blocks=blocks):
                self.assertEqual(turned(points, blocks), less)

    def test_every_free_parting_of_few_points(self):
        for points in range(9):
            for blocks in free_partings(points):
                self.assertEqual(turned(points, blocks), one_less(points, blocks))

    def test_turned_once_for_each_point_it_is_as_before(self):
        for points, blocks in FREE:
            with self.subTest(points=points, blocks=blocks):
                told = blocks
                for turn in range(points):
                    told = turned(points, told)
                self.assertEqual(told, blocks)


if __name__ == "__main__":
    unittest.main()
