"""Points [4], [5] and [11], as far as they speak of trees."""

import itertools
import random
import unittest

from ringbook.errors import NoNumber, NoPlace, NoTree
from ringbook.nets import Net
from ringbook.trees import many_trees, tree_at, tree_number
from tests.helpers import (
    SIXTY_FIGURES,
    all_trees,
    assert_refused,
    counted_trees,
    drawn_net,
    drawn_numbers,
    every_small_net,
    exits_of,
    greater_nets_with_rings,
    is_tree_ahead,
    is_tree_list,
    sample_nets,
)


def small_nets():
    draw = random.Random(4)
    sizes = [(3, 7), (4, 5), (4, 8), (5, 7), (5, 10), (6, 8), (6, 11)] * 4
    return list(every_small_net(3, 4)) + [drawn_net(draw, places, many) for places, many in sizes]


def greater_nets():
    draw = random.Random(5)
    sizes = [(2, 64), (9, 64), (20, 40), (31, 64), (32, 33), (32, 48), (32, 64), (32, 64), (32, 64)]
    return [drawn_net(draw, places, many) for places, many in sizes] + greater_nets_with_rings() + sample_nets()


def numbers_beyond(many):
    return [-1, -many, -many - 1, -SIXTY_FIGURES, many, many + 1, SIXTY_FIGURES, 10**59]


class SmallNets(unittest.TestCase):
    def test_all_lists_of_exits_gone_through(self):
        for places, roads in small_nets():
            net = Net(places, roads)
            for goal in range(places):
                with self.subTest(places=places, roads=roads, goal=goal):
                    trees = all_trees(places, roads, goal)
                    many = len(trees)
                    self.assertEqual(many_trees(net, goal), many)
                    self.assertEqual([tree_at(net, goal, number) for number in range(many)], trees)
                    self.assertEqual([tree_number(net, goal, tree) for tree in trees], list(range(many)))
                    assert_refused(self, NoNumber, tree_at, net, goal, many)
                    assert_refused(self, NoNumber, tree_at, net, goal, -1)

    def test_every_list_of_entries(self):
        for places, roads in [
            (1, [(0, 0), (0, 0)]),
            (2, [(0, 1), (1, 0), (1, 1), (0, 0)]),
            (3, [(0, 1), (1, 2), (2, 0), (1, 0)]),
            (3, [(2, 1), (0, 0), (1, 1), (0, 2)]),
            (3, [(1, 1), (2, 1), (0, 1), (2, 0), (0, 2)]),
        ]:
            net = Net(places, roads)
            entries = [None] + list(range(-len(roads) - 1, len(roads) + 2))
            for goal in range(places):
                trees = all_trees(places, roads, goal)
                for row in itertools.product(entries, repeat=places):
                    tree = list(row)
                    if tree in trees:
                        self.assertEqual(tree_number(net, goal, tree), trees.index(tree))
                    else:
                        assert_refused(self, NoTree, tree_number, net, goal, tree)

    def test_order_of_entries_not_of_numbers_of_roads_taken(self):
        net = Net(3, [(2, 0), (1, 0), (2, 1), (1, 0), (0, 0), (1, 2)])
        expected = [[None, 1, 0], [None, 1, 2], [None, 3, 0], [None, 3, 2], [None, 5, 0]]
        self.assertEqual([tree_at(net, 0, number) for number in range(5)], expected)
        self.assertEqual(many_trees(net, 0), 5)


class GreaterNets(unittest.TestCase):
    def test_how_many(self):
        for places, roads in greater_nets():
            net = Net(places, roads)
            for goal in sorted({0, places // 2, places - 1}):
                with self.subTest(places=places, roads=roads, goal=goal):
                    self.assertEqual(many_trees(net, goal), counted_trees(places, roads, goal))

    def test_every_place_with_a_road_to_every_other(self):
        for places in range(1, 9):
            roads = [(start, end) for start in range(places) for end in range(places)]
            for goal in range(places):
                expected = places ** (places - 2) if places > 1 else 1
                self.assertEqual(many_trees(Net(places, roads), goal), expected)

    def test_drawn_numbers_there_and_back(self):
        draw = random.Random(54)
        with_trees = 0
        for places, roads in greater_nets():
            net = Net(places, roads)
            for goal in sorted({0, places // 2, places - 1}):
                many = many_trees(net, goal)
                with_trees += many > 0
                with self.subTest(places=places, roads=roads, goal=goal):
                    self.assert_there_and_back(net, goal, drawn_numbers(draw, many, 8) if many else [])
                    for number in numbers_beyond(many):
                        assert_refused(self, NoNumber, tree_at, net, goal, number)
        self.assertGreater(with_trees, 30)

    def assert_there_and_back(self, net, goal, numbers):
        trees = [tree_at(net, goal, number) for number in numbers]
        for number, tree in zip(numbers, trees):
            self.assertTrue(is_tree_list(net.places(), net.roads(), goal, tree))
            self.assertEqual(tree_number(net, goal, tree), number)
        for tree, following in zip(trees, trees[1:]):
            self.assertTrue(is_tree_ahead(tree, following))

    def test_first_and_last_of_a_star(self):
        # Every exit of the other places leads to the goal, so each list of exits is a tree.
        roads = [(place, 31) for place in range(31)] * 2 + [(31, 31)]
        net = Net(32, roads)
        exits = exits_of(32, roads)
        self.assertEqual(many_trees(net, 31), 2**31)
        self.assertEqual(tree_at(net, 31, 0), [exits[place][0] for place in range(31)] + [None])
        self.assertEqual(tree_at(net, 31, 2**31 - 1), [exits[place][-1] for place in range(31)] + [None])
        self.assertEqual(tree_at(net, 31, 1), [exits[place][0] for place in range(30)] + [exits[30][1], None])


class NoTreeOrOne(unittest.TestCase):
    def test_one_place(self):
        for many in [1, 2, 64]:
            net = Net(1, [(0, 0)] * many)
            self.assertEqual(many_trees(net, 0), 1)
            self.assertEqual(tree_at(net, 0, 0), [None])
            self.assertEqual(tree_number(net, 0, [None]), 0)
            for number in numbers_beyond(1):
                assert_refused(self, NoNumber, tree_at, net, 0, number)
            for tree in [[], [0], [None, None], [None, 0], [-1], [None] * 40]:
                assert_refused(self, NoTree, tree_number, net, 0, tree)

    def test_place_into_which_no_tree_leads(self):
        cases = [
            (Net(2, [(0, 1), (1, 1)]), 0, [[None, 1], [None, None], [None, 0]]),
            (Net(2, [(0, 0), (1, 1)]), 1, [[0, None]]),
            (Net(4, [(0, 1), (1, 0), (2, 3), (3, 2)]), 2, [[0, 1, None, 3]]),
            (Net(32, [(place, 31) for place in range(32)] + [(31, 31)] * 32), 5, [[None] * 32]),
            (Net(3, [(0, 0), (1, 2), (2, 1), (1, 1)]), 0, [[None, 1, 2], [None, 3, 2]]),
        ]
        for net, goal, trees in cases:
            with self.subTest(roads=net.roads(), goal=goal):
                self.assertEqual(many_trees(net, goal), 0)
                for number in [0] + numbers_beyond(0) + numbers_beyond(1):
                    assert_refused(self, NoNumber, tree_at, net, goal, number)
                for tree in trees:
                    assert_refused(self, NoTree, tree_number, net, goal, tree)

    def test_later_places_that_cannot_leave(self):
        # The places that can't come to the goal stand first, last and between.
        for locked in range(1, 4):
            roads = [(place, locked if place == locked else 0) for place in range(4)]
            self.assertEqual(many_trees(Net(4, roads), 0), 0)

    def test_loops_and_the_goals_own_exits_make_no_tree(self):
        net = Net(2, [(0, 1), (0, 0), (1, 0), (1, 1), (1, 0)])
        self.assertEqual([tree_at(net, 0, number) for number in range(many_trees(net, 0))], [[None, 2], [None, 4]])
        self.assertEqual([tree_at(net, 1, number) for number in range(many_trees(net, 1))], [[0, None]])


class WrongTrees(unittest.TestCase):
    def setUp(self):
        self.roads = [(0, 1), (1, 2), (2, 3), (3, 0), (1, 3), (2, 2), (3, 3), (1, 0)]
        self.net = Net(4, self.roads)
        self.tree = [0, 1, 2, None]

    def assert_no_tree(self, tree):
        assert_refused(self, NoTree, tree_number, self.net, 3, tree)

    def test_the_right_one(self):
        self.assertTrue(is_tree_list(4, self.roads, 3, self.tree))
        self.assertEqual(tree_at(self.net, 3, tree_number(self.net, 3, self.tree)), self.tree)

    def test_none_elsewhere(self):
        for spots in [[0], [1], [2], [0, 1], [0, 1, 2]]:
            self.assert_no_tree([None if spot in spots else self.tree[spot] for spot in range(4)])

    def test_no_none_at_its_place(self):
        for entry in list(range(-9, 10)) + [SIXTY_FIGURES, -SIXTY_FIGURES]:
            self.assert_no_tree(self.tree[:3] + [entry])

    def test_none_at_another_place(self):
        self.assert_no_tree([None, 1, 2, 3])

    def test_exit_of_another_place(self):
        for spot in range(3):
            for road in range(8):
                if self.roads[road][0] != spot:
                    self.assert_no_tree(self.tree[:spot] + [road] + self.tree[spot + 1 :])

    def test_road_that_is_not_there(self):
        for spot in range(3):
            beyond = [-1, self.tree[spot] - 8, 8, 9, 64, SIXTY_FIGURES, -SIXTY_FIGURES, 10**59]
            for road in beyond:
                self.assert_no_tree(self.tree[:spot] + [road] + self.tree[spot + 1 :])

    def test_round_and_round(self):
        self.assert_no_tree([0, 7, 2, None])
        self.assert_no_tree([0, 1, 5, None])

    def test_another_length(self):
        for many in range(41):
            if many != 4:
                self.assert_no_tree((self.tree * 10)[:many])
                self.assert_no_tree([None] * many)
                self.assert_no_tree((self.tree + [0] * 40)[:many])

    def test_another_length_in_a_net_of_32_places(self):
        roads = [(place, max(place - 1, 0)) for place in range(32)]
        net = Net(32, roads)
        tree = [None] + list(range(1, 32))
        self.assertEqual(tree_number(net, 0, tree), 0)
        for many in range(41):
            if many != 32:
                assert_refused(self, NoTree, tree_number, net, 0, (tree + list(range(32, 50)))[:many])

    def test_tree_into_another_place(self):
        for goal in range(4):
            for tree in all_trees(4, self.roads, goal):
                for other in range(4):
                    if other != goal:
                        assert_refused(self, NoTree, tree_number, self.net, other, tree)


class WrongPlaces(unittest.TestCase):
    def test_place_that_is_not_there(self):
        for places, roads in sample_nets():
            net = Net(places, roads)
            for place in [-1, -places, -places - 1, places, places + 1, SIXTY_FIGURES, -SIXTY_FIGURES]:
                with self.subTest(places=places, place=place):
                    assert_refused(self, NoPlace, many_trees, net, place)
                    assert_refused(self, NoPlace, tree_at, net, place, 0)
                    assert_refused(self, NoPlace, tree_number, net, place, [None] + [0] * (places - 1))


if __name__ == "__main__":
    unittest.main()
