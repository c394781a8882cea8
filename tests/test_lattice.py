"""Points [1], [4] and [5]: nocrossing.lattice."""

import unittest
from copy import deepcopy

from helper import NO_PARTINGS, all_partings, alone, crosses_at, free_partings, lies_below, together
from nocrossing.errors import Crossing, NoParting
from nocrossing.lattice import below, joined, met

LOW_CROSSING = [[0, 2], [1, 3], [4]]
HIGH_CROSSING = [[0], [1, 3], [2, 4]]
NESTED = [[0, 9], [1, 8], [2, 7], [3, 6], [4, 5]]

# points, one, other, the two met, the two joined
PAIRS = [
    (0, [], [], [], []),
    (1, [[0]], [[0]], [[0]], [[0]]),
    (2, [[0, 1]], [[0], [1]], [[0], [1]], [[0, 1]]),
    (3, [[0, 1], [2]], [[0], [1, 2]], [[0], [1], [2]], [[0, 1, 2]]),
    (4, [[0, 2], [1], [3]], [[0], [1, 3], [2]], [[0], [1], [2], [3]], [[0, 1, 2, 3]]),
    (4, [[0, 1], [2, 3]], [[0, 3], [1, 2]], [[0], [1], [2], [3]], [[0, 1, 2, 3]]),
    (4, [[0, 1, 2], [3]], [[0], [1, 2, 3]], [[0], [1, 2], [3]], [[0, 1, 2, 3]]),
    (5, [[0, 2], [1], [3], [4]], [[0], [1, 3], [2], [4]], [[0], [1], [2], [3], [4]], [[0, 1, 2, 3], [4]]),
    (5, [[0, 1, 4], [2, 3]], [[0, 4], [1, 2, 3]], [[0, 4], [1], [2, 3]], [[0, 1, 2, 3, 4]]),
    (6, [[0], [1, 2], [3], [4, 5]], [[0], [1, 2], [3, 4], [5]], [[0], [1, 2], [3], [4], [5]], [[0], [1, 2], [3, 4, 5]]),
    # Made one where they cross, two blocks cross a third one only then.
    (
        8,
        [[0, 3], [1], [2], [4], [5, 7], [6]],
        [[0], [1, 6], [2], [3], [4], [5], [7]],
        [[0], [1], [2], [3], [4], [5], [6], [7]],
        [[0, 1, 3, 5, 6, 7], [2], [4]],
    ),
    (10, NESTED, alone(10), alone(10), NESTED),
    (10, NESTED, together(10), NESTED, together(10)),
    (
        10,
        [[0, 4, 9], [1, 2, 3], [5, 8], [6], [7]],
        [[0, 9], [1, 3], [2], [4, 5], [6, 7, 8]],
        [[0, 9], [1, 3], [2], [4], [5], [6], [7], [8]],
        [[0, 4, 5, 6, 7, 8, 9], [1, 2, 3]],
    ),
]


class BelowTest(unittest.TestCase):
    def test_some(self):
        for points, one, other, answer in (
            (0, [], [], True),
            (1, [[0]], [[0]], True),
            (2, [[0], [1]], [[0, 1]], True),
            (2, [[0, 1]], [[0], [1]], False),
            (4, [[0, 2], [1], [3]], [[0, 1, 2], [3]], True),
            (4, [[0, 1, 2], [3]], [[0, 2], [1], [3]], False),
            (4, [[0, 1], [2, 3]], [[0, 2], [1, 3]], False),
            (4, [[0, 1], [2], [3]], [[0, 1], [2, 3]], True),
            (4, [[0], [1], [2, 3]], [[0], [1, 2], [3]], False),
        ):
            with self.subTest(one=one, other=other):
                self.assertIs(below(points, one, other), answer)

    def test_crossing_ones(self):
        self.assertIs(below(4, [[0, 2], [1, 3]], [[0, 2], [1, 3]]), True)
        self.assertIs(below(4, [[0, 2], [1, 3]], [[0, 1, 2, 3]]), True)
        self.assertIs(below(4, [[0, 1, 2, 3]], [[0, 2], [1, 3]]), False)
        self.assertIs(below(5, LOW_CROSSING, HIGH_CROSSING), False)
        self.assertIs(below(5, [[0], [1, 3], [2], [4]], HIGH_CROSSING), True)

    def test_every_two_of_few_points(self):
        for points in range(6):
            partings = all_partings(points)
            for one in partings:
                for other in partings:
                    self.assertIs(below(points, one, other), lies_below(one, other), (one, other))

    def test_the_lowest_and_the_highest(self):
        for points in range(11):
            self.assertIs(below(points, alone(points), together(points)), True)
            self.assertIs(below(points, together(points), alone(points)), points < 2)
        for points in range(8):
            for blocks in all_partings(points):
                self.assertIs(below(points, alone(points), blocks), True)
                self.assertIs(below(points, blocks, blocks), True)
                self.assertIs(below(points, blocks, together(points)), True)

    def test_no_parting_is_refused(self):
        for why, points, blocks in NO_PARTINGS:
            for one, other in ((blocks, alone(points)), (alone(points), blocks), (blocks, blocks)):
                with self.subTest(why, one=one, other=other), self.assertRaises(NoParting):
                    below(points, one, other)

    def test_partings_of_unlike_many_points_are_refused(self):
        for one, other in (([[0, 1]], [[0, 1, 2]]), ([[0, 1, 2]], [[0, 1]])):
            for points in (2, 3):
                with self.subTest(points=points, one=one), self.assertRaises(NoParting):
                    below(points, one, other)


class MetAndJoinedTest(unittest.TestCase):
    def test_some(self):
        for points, one, other, the_met, the_joined in PAIRS:
            with self.subTest(one=one, other=other):
                self.assertEqual(met(points, one, other), the_met)
                self.assertEqual(met(points, other, one), the_met)
                self.assertEqual(joined(points, one, other), the_joined)
                self.assertEqual(joined(points, other, one), the_joined)

    def test_every_two_of_few_points(self):
        for points in range(7):
            free = free_partings(points)
            under = [{low for low, one in enumerate(free) if lies_below(one, other)} for other in free]
            over = [{high for high, other in enumerate(free) if lies_below(one, other)} for one in free]
            for first, one in enumerate(free):
                for second, other in enumerate(free):
                    greatest = free.index(met(points, one, other))
                    self.assertEqual(under[greatest], under[first] & under[second], (one, other))
                    least = free.index(joined(points, one, other))
                    self.assertEqual(over[least], over[first] & over[second], (one, other))

    def test_no_parting_is_refused(self):
        for ask in (met, joined):
            for why, points, blocks in NO_PARTINGS:
                for one, other in ((blocks, alone(points)), (alone(points), blocks), (blocks, blocks)):
                    with self.subTest(why, ask=ask.__name__), self.assertRaises(NoParting):
                        ask(points, one, other)

    def test_crossing_is_refused(self):
        for ask in (met, joined):
            for blocks in (LOW_CROSSING, HIGH_CROSSING, [[0, 2, 4], [1, 3]]):
                for one, other in ((blocks, alone(5)), (alone(5), blocks), (together(5), blocks), (blocks, blocks)):
                    with self.subTest(ask=ask.__name__, one=one, other=other):
                        with self.assertRaises(Crossing) as taken:
                            ask(5, one, other)
                        self.assertIs(type(taken.exception.points), tuple)
                        self.assertTrue(crosses_at(blocks, taken.exception.points))

    def test_of_two_crossing_ones_the_first_is_refused(self):
        for ask in (met, joined):
            for one, other, points in (
                (LOW_CROSSING, HIGH_CROSSING, (0, 1, 2, 3)),
                (HIGH_CROSSING, LOW_CROSSING, (1, 2, 3, 4)),
            ):
                with self.subTest(ask=ask.__name__, one=one):
                    with self.assertRaises(Crossing) as taken:
                        ask(5, one, other)
                    self.assertEqual(taken.exception.points, points)

    def test_no_parting_is_refused_ahead_of_crossing(self):
        broken = [[0, 1], [2, 3]]
        for ask in (met, joined):
            for one, other in ((LOW_CROSSING, broken), (broken, LOW_CROSSING)):
                with self.subTest(ask=ask.__name__, one=one), self.assertRaises(NoParting):
                    ask(5, one, other)


class OwnTest(unittest.TestCase):
    def test_what_is_handed_in_is_not_changed(self):
        for points, one, other, the_met, the_joined in PAIRS:
            for ask in (below, met, joined):
                with self.subTest(ask=ask.__name__, one=one, other=other):
                    first, second = deepcopy(one), deepcopy(other)
                    ask(points, first, second)
                    self.assertEqual((first, second), (one, other))

    def test_what_is_refused_is_not_changed(self):
        for ask in (met, joined):
            for bad in (LOW_CROSSING, [[0, 2], [1, 3]], [[4, 0], [], [9]]):
                first, second = alone(5), deepcopy(bad)
                with self.subTest(ask=ask.__name__, bad=bad):
                    with self.assertRaises((NoParting, Crossing)):
                        ask(5, first, second)
                    self.assertEqual((first, second), (alone(5), bad))

    def test_no_two_lists_are_one(self):
        for points, one, other, the_met, the_joined in PAIRS:
            for ask in (met, joined):
                for second in (other, one):
                    with self.subTest(ask=ask.__name__, one=one, second=second):
                        told = ask(points, one, second)
                        again = ask(points, one, second)
                        lists = [told, again, one, other] + told + again + one + other
                        self.assertEqual(len({id(each) for each in lists}), len(lists))

    def test_what_is_told_does_not_hang_on_what_was_handed_in(self):
        for ask in (met, joined):
            one, other = [[0, 2], [1]], [[0, 2], [1]]
            told = ask(3, one, other)
            one[0].append(9)
            other.clear()
            self.assertEqual(told, [[0, 2], [1]])
            told[0].append(7)
            self.assertEqual(ask(3, [[0, 2], [1]], [[0, 2], [1]]), [[0, 2], [1]])

    def test_the_same_list_handed_in_twice(self):
        blocks = [[0, 3], [1, 2]]
        self.assertIs(below(4, blocks, blocks), True)
        self.assertEqual(met(4, blocks, blocks), [[0, 3], [1, 2]])
        self.assertEqual(joined(4, blocks, blocks), [[0, 3], [1, 2]])
        self.assertEqual(blocks, [[0, 3], [1, 2]])


if __name__ == "__main__":
    unittest.main()
