"""What holds over the whole program: the interface, point [1], and the order of refusals of point [11]."""

import inspect
import unittest

from ringbook import errors, nets, notes, rings, trees, words
from ringbook.errors import NoNumber, NoPlace, NoRing, NotRead, NoTree, NoWords
from ringbook.nets import Net
from tests.helpers import SIXTY_FIGURES, assert_refused

ROADS = [(0, 1), (1, 2), (2, 0), (0, 2), (2, 1), (1, 0), (1, 1), (0, 0)]
ARGUMENTS = [
    (nets.Net, ["places", "roads"]),
    (nets.Net.places, ["self"]),
    (nets.Net.roads, ["self"]),
    (nets.Net.exits, ["self", "place"]),
    (notes.shown, ["net"]),
    (notes.read, ["text"]),
    (trees.many_trees, ["net", "place"]),
    (trees.tree_at, ["net", "place", "number"]),
    (trees.tree_number, ["net", "place", "tree"]),
    (rings.why, ["net"]),
    (rings.is_ring, ["net", "ring"]),
    (rings.many_rings, ["net"]),
    (rings.ring_at, ["net", "number"]),
    (rings.ring_number, ["net", "ring"]),
    (words.word_net, ["signs", "size"]),
    (words.many_word_rings, ["signs", "size"]),
    (words.word_ring, ["signs", "size", "number"]),
    (words.word_ring_number, ["signs", "size", "ring"]),
]


def lists_told():
    """Calls that each tell a list, or something that holds one, told anew at every call."""
    net = Net(3, ROADS)
    return [
        net.roads,
        lambda: net.exits(1),
        lambda: notes.read("2: 0>1 1>0").roads(),
        lambda: trees.tree_at(net, 1, 2),
        lambda: rings.why(Net(3, [(0, 1), (1, 1), (2, 2)]))[1],
        lambda: rings.why(Net(3, [(0, 0), (1, 2), (2, 1)]))[1],
        lambda: rings.ring_at(net, 7),
        lambda: words.word_net(2, 3).roads(),
        lambda: words.word_ring(2, 4, 5),
        lambda: words.word_ring(1, 4, 0),
        lambda: trees.tree_at(Net(1, [(0, 0)]), 0, 0),
    ]


class Interface(unittest.TestCase):
    def test_arguments(self):
        for call, names in ARGUMENTS:
            with self.subTest(call.__qualname__):
                told = inspect.signature(call).parameters
                self.assertEqual(list(told), names)
                self.assertTrue(all(one.default is one.empty for one in told.values()))

    def test_whole_numbers(self):
        net = Net(3, ROADS)
        told = [
            trees.many_trees(net, 0),
            trees.many_trees(Net(1, [(0, 0)]), 0),
            trees.many_trees(Net(2, [(0, 0), (1, 1)]), 0),
            trees.tree_number(net, 0, trees.tree_at(net, 0, 0)),
            rings.many_rings(net),
            rings.many_rings(Net(2, [(0, 0), (1, 1)])),
            rings.ring_number(net, rings.ring_at(net, 0)),
            words.many_word_rings(2, 3),
            words.word_ring_number(2, 3, words.word_ring(2, 3, 0)),
        ]
        self.assertEqual([type(one) for one in told], [int] * len(told))

    def test_lists(self):
        for tell in lists_told():
            self.assertIs(type(tell()), list)
        self.assertIs(type(words.word_net(2, 2)), Net)


class WhatIsHandedIn(unittest.TestCase):
    def assert_stays(self, call, *handed):
        """The last thing handed in is a list, and stays; what the call told stays too when it is changed later."""
        kept = list(handed[-1])
        first = call(*handed)
        self.assertEqual(handed[-1], kept)
        own = list(kept)
        self.assertEqual(call(*handed[:-1], own), first)
        own.clear()
        self.assertEqual(call(*handed), first)

    def test_lists_stay(self):
        net = Net(3, ROADS)
        self.assert_stays(trees.tree_number, net, 1, trees.tree_at(net, 1, 2))
        self.assert_stays(rings.is_ring, net, rings.ring_at(net, 9))
        self.assert_stays(rings.is_ring, net, [7, 3, 3, -1])
        self.assert_stays(rings.ring_number, net, rings.ring_at(net, 9))
        self.assert_stays(words.word_ring_number, 2, 4, words.word_ring(2, 4, 3))

    def test_refused_lists_stay(self):
        net = Net(3, ROADS)
        calls = [
            (NoTree, trees.tree_number, (net, 1), [5, 4, 0, None, None]),
            (NoTree, trees.tree_number, (net, 1), [3, None, 2]),
            (NoRing, rings.ring_number, (net,), [7, 6, 5, 4, 3, 2, 1, 0]),
            (NoRing, words.word_ring_number, (2, 2), [1, 0, 0, 1]),
            (NoRing, words.word_ring_number, (2, 2), [3, 0, -1]),
        ]
        for refusal, call, ahead, handed in calls:
            kept = list(handed)
            assert_refused(self, refusal, call, *ahead, handed)
            self.assertEqual(handed, kept)

    def test_nets_stay(self):
        net = Net(3, ROADS)
        trees.many_trees(net, 0)
        trees.tree_number(net, 1, trees.tree_at(net, 1, 1))
        rings.ring_number(net, rings.ring_at(net, rings.many_rings(net) - 1))
        rings.why(net)
        self.assertEqual((net.places(), net.roads()), (3, ROADS))
        self.assertEqual([net.exits(place) for place in range(3)], [[0, 3, 7], [1, 5, 6], [2, 4]])

    def test_roads_changed_later(self):
        roads = list(ROADS)
        net = Net(3, roads)
        before = (trees.tree_at(net, 1, 2), rings.many_rings(net), rings.ring_at(net, 5))
        roads[0] = (2, 2)
        roads.append((1, 1))
        self.assertEqual((trees.tree_at(net, 1, 2), rings.many_rings(net), rings.ring_at(net, 5)), before)


class WhatIsTold(unittest.TestCase):
    def test_changed_and_told_again(self):
        for spot, tell in enumerate(lists_told()):
            with self.subTest(spot):
                first = tell()
                kept = list(first)
                second = tell()
                self.assertIsNot(first, second)
                first[0] = "changed"
                first.append("more")
                self.assertEqual(second, kept)
                second.clear()
                self.assertEqual(tell(), kept)

    def test_told_roads_of_a_word_net_changed(self):
        net = words.word_net(2, 3)
        net.roads().clear()
        net.exits(0).clear()
        self.assertEqual(net.roads(), words.word_net(2, 3).roads())
        self.assertEqual(rings.many_rings(net), 2)

    def test_not_the_list_that_was_handed_in(self):
        net = Net(3, ROADS)
        ring = rings.ring_at(net, 3)
        rings.ring_number(net, ring)
        self.assertIsNot(rings.ring_at(net, 3), ring)
        tree = trees.tree_at(net, 2, 1)
        trees.tree_number(net, 2, tree)
        tree[0] = None
        self.assertNotEqual(trees.tree_at(net, 2, 1), tree)


class OrderOfRefusals(unittest.TestCase):
    numbers = [-1, -SIXTY_FIGURES, SIXTY_FIGURES, 10**59]
    places = [-1, -3, 3, 4, 32, SIXTY_FIGURES, -SIXTY_FIGURES]
    no_trees = [[], [None], [0, 1, 2], [None, None, None], [0, None, 99], [SIXTY_FIGURES] * 3, [None] * 40]
    no_words = [(0, 1), (1, 0), (7, 1), (1, 7), (3, 4), (6, 6), (-1, 2), (SIXTY_FIGURES, 2), (2, -SIXTY_FIGURES)]
    no_rings = [[], [0, 0], [1, 0], [2, -1], [SIXTY_FIGURES, -SIXTY_FIGURES], [0] * 100]

    def test_no_place_ahead_of_no_number(self):
        for net in [Net(3, ROADS), Net(3, [(0, 0), (1, 1), (2, 2)])]:
            for place in self.places:
                for number in self.numbers:
                    assert_refused(self, NoPlace, trees.tree_at, net, place, number)

    def test_no_place_ahead_of_no_tree(self):
        for net in [Net(3, ROADS), Net(3, [(0, 0), (1, 1), (2, 2)])]:
            for place in self.places:
                for tree in self.no_trees:
                    assert_refused(self, NoPlace, trees.tree_number, net, place, tree)

    def test_no_words_ahead_of_no_number(self):
        for signs, size in self.no_words:
            for number in self.numbers:
                assert_refused(self, NoWords, words.word_ring, signs, size, number)

    def test_no_words_ahead_of_no_ring(self):
        for signs, size in self.no_words:
            for ring in self.no_rings:
                assert_refused(self, NoWords, words.word_ring_number, signs, size, ring)

    def test_each_by_itself(self):
        net = Net(3, ROADS)
        for number in self.numbers:
            assert_refused(self, NoNumber, trees.tree_at, net, 0, number)
            assert_refused(self, NoNumber, rings.ring_at, net, number)
            assert_refused(self, NoNumber, words.word_ring, 2, 1, number)
        for tree in self.no_trees:
            assert_refused(self, NoTree, trees.tree_number, net, 0, tree)
        for ring in self.no_rings:
            assert_refused(self, NoRing, rings.ring_number, net, ring)
            assert_refused(self, NoRing, words.word_ring_number, 2, 1, ring)

    def test_written_nets_are_refused_as_not_read(self):
        # What is written tells no net, and NoNet is still not what is raised: point [3] says so.
        assert_refused(self, NotRead, notes.read, "2: 0>1")
        self.assertTrue(issubclass(errors.NotRead, errors.BookError))


if __name__ == "__main__":
    unittest.main()
