"""Points [1], [2] and [3] over the whole program, and the interface's names and arguments."""

import inspect
import unittest
from copy import deepcopy

from helper import CROSSING, FREE, NO_PARTINGS, crosses_at
from nocrossing import contrary, counts, lattice, notes, partings
from nocrossing.errors import Crossing, NoParting, RingError

INTERFACE = [
    (partings, "is_parting", ["points", "blocks"]),
    (partings, "crossing", ["points", "blocks"]),
    (partings, "order_of", ["points", "blocks"]),
    (lattice, "below", ["points", "one", "other"]),
    (lattice, "met", ["points", "one", "other"]),
    (lattice, "joined", ["points", "one", "other"]),
    (contrary, "contrary", ["points", "blocks"]),
    (contrary, "turned", ["points", "blocks"]),
    (counts, "many", ["points"]),
    (counts, "many_of", ["points", "count"]),
    (counts, "ways_up", ["points", "blocks"]),
    (counts, "parting_at", ["points", "number"]),
    (counts, "number_of", ["points", "blocks"]),
    (notes, "shown", ["points", "blocks"]),
    (notes, "read", ["text"]),
]

ASKING_A_FREE_ONE = [partings.order_of, contrary.contrary, contrary.turned, counts.ways_up, counts.number_of]
ASKING_ANY = [partings.crossing, notes.shown]
TELLING_LISTS = [partings.order_of, contrary.contrary, contrary.turned]


def lists_in(told):
    return [told] + [each for each in told if isinstance(each, list)]


class InterfaceTest(unittest.TestCase):
    def test_names_and_arguments(self):
        for module, name, arguments in INTERFACE:
            with self.subTest(name):
                self.assertEqual(list(inspect.signature(getattr(module, name)).parameters), arguments)


class RefusalsTest(unittest.TestCase):
    def test_no_parting_is_refused_ahead_of_crossing(self):
        for ask in ASKING_A_FREE_ONE + ASKING_ANY:
            for why, points, blocks in NO_PARTINGS:
                with self.subTest(why, ask=ask.__name__), self.assertRaises(NoParting):
                    ask(points, blocks)

    def test_a_crossing_one_is_refused_with_its_crossing(self):
        for ask in ASKING_A_FREE_ONE:
            for points, blocks in CROSSING:
                with self.subTest(ask=ask.__name__, blocks=blocks):
                    with self.assertRaises(Crossing) as taken:
                        ask(points, blocks)
                    self.assertIs(type(taken.exception.points), tuple)
                    self.assertTrue(crosses_at(blocks, taken.exception.points))

    def test_a_crossing_one_is_not_refused_where_any_is_asked_for(self):
        for ask in ASKING_ANY:
            for points, blocks in CROSSING:
                with self.subTest(ask=ask.__name__, blocks=blocks):
                    self.assertIsNotNone(ask(points, blocks))


class OwnTest(unittest.TestCase):
    def test_what_is_handed_in_is_not_changed(self):
        refused = [(points, blocks) for why, points, blocks in NO_PARTINGS]
        for ask in ASKING_A_FREE_ONE + ASKING_ANY + [partings.is_parting]:
            for points, blocks in FREE + CROSSING + refused:
                with self.subTest(ask=ask.__name__, points=points, blocks=blocks):
                    handed = deepcopy(blocks)
                    try:
                        ask(points, handed)
                    except RingError:
                        pass
                    self.assertEqual(handed, blocks)

    def test_no_two_lists_are_one(self):
        for ask in TELLING_LISTS:
            for points, blocks in FREE:
                with self.subTest(ask=ask.__name__, blocks=blocks):
                    lists = lists_in(ask(points, blocks)), lists_in(ask(points, blocks)), lists_in(blocks)
                    self.assertEqual(len({id(each) for some in lists for each in some}), sum(map(len, lists)))

    def test_nothing_hangs_on_what_was_handed_in_or_told(self):
        for ask in TELLING_LISTS:
            for points, blocks in FREE:
                with self.subTest(ask=ask.__name__, blocks=blocks):
                    handed = deepcopy(blocks)
                    told = ask(points, handed)
                    before = deepcopy(told)
                    for each in lists_in(handed):
                        each.append(99)
                    self.assertEqual(told, before)
                    for each in lists_in(told):
                        each.append(77)
                    self.assertEqual(ask(points, deepcopy(blocks)), before)

    def test_a_caught_crossing_does_not_hang_on_the_blocks(self):
        for ask in ASKING_A_FREE_ONE:
            with self.subTest(ask=ask.__name__):
                handed = [[0, 2], [1, 3]]
                with self.assertRaises(Crossing) as taken:
                    ask(4, handed)
                handed.clear()
                self.assertEqual(taken.exception.points, (0, 1, 2, 3))


if __name__ == "__main__":
    unittest.main()
