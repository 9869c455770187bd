"""Points [6], [7], [8] and [11], as far as they speak of rings."""

import itertools
import math
import random
import unittest

from ringbook.errors import NoNumber, NoRing
from ringbook.nets import Net
from ringbook.rings import is_ring, many_rings, ring_at, ring_number, why
from tests.helpers import (
    SIXTY_FIGURES,
    all_rings,
    assert_refused,
    counted_trees,
    drawn_net,
    drawn_net_with_rings,
    drawn_numbers,
    every_small_net,
    greater_nets_with_rings,
    is_ring_list,
    joined_ring,
    sample_nets,
    told_why,
)

UNLIKE = [
    (2, [(0, 1), (1, 1)], [0, 1]),
    (2, [(0, 1), (1, 0), (1, 0)], [0, 1]),
    (3, [(2, 0), (0, 1), (1, 2), (1, 0)], [0, 1]),
    (4, [(3, 3), (2, 1), (1, 2), (0, 0), (3, 1)], [1, 3]),
    (32, [(place, 31) for place in range(32)], list(range(32))),
]
APART = [
    (2, [(0, 0), (1, 1)], [1]),
    (2, [(1, 1), (0, 0)], [0]),
    (3, [(1, 1), (2, 0), (0, 2)], [0, 2]),
    (4, [(2, 1), (1, 2), (3, 0), (0, 3)], [0, 3]),
    (5, [(4, 4), (3, 2), (2, 3), (0, 1), (1, 0), (4, 4)], [0, 1, 2, 3]),
    (32, [(place, place) for place in range(31, -1, -1)], list(range(31))),
]
BOTH = [
    (3, [(0, 1), (1, 1), (2, 2)], [0, 1]),
    (3, [(0, 0), (1, 2), (2, 2)], [1, 2]),
    (5, [(4, 4), (0, 1), (1, 0), (2, 3), (3, 3)], [2, 3]),
]


def ringless_nets():
    return [Net(places, roads) for places, roads, _ in UNLIKE + APART + BOTH]


def small_nets():
    draw = random.Random(6)
    sizes = [(1, 6), (2, 5), (2, 6), (3, 5), (3, 6), (4, 6), (5, 7)] * 3 + [(4, 7), (3, 7)]
    with_rings = [drawn_net_with_rings(draw, places, many) for places, many in sizes]
    return with_rings + [drawn_net(draw, places, many) for places, many in [(2, 5), (3, 6), (5, 6)] * 3]


class Why(unittest.TestCase):
    def assert_why(self, word, cases):
        for places, roads, expected in cases:
            with self.subTest(places=places, roads=roads):
                told = why(Net(places, roads))
                self.assertEqual(told, (word, expected))
                self.assertIs(type(told), tuple)
                self.assertIs(type(told[1]), list)

    def test_unlike(self):
        self.assert_why("unlike", UNLIKE)

    def test_apart(self):
        self.assert_why("apart", APART)

    def test_both_at_once(self):
        self.assert_why("unlike", BOTH)

    def test_nets_with_a_ring(self):
        for places, roads in greater_nets_with_rings():
            with self.subTest(places=places, roads=roads):
                self.assertIsNone(why(Net(places, roads)))

    def test_every_small_net(self):
        for places, roads in list(every_small_net(3, 4)) + sample_nets():
            with self.subTest(places=places, roads=roads):
                self.assertEqual(why(Net(places, roads)), told_why(places, roads))

    def test_drawn_nets(self):
        draw = random.Random(7)
        for places, many in [(4, 4), (5, 6), (9, 20), (32, 32), (32, 64)] * 10:
            net = drawn_net(draw, places, many)
            self.assertEqual(why(Net(*net)), told_why(*net))

    def test_permutations_that_lie_apart(self):
        draw = random.Random(70)
        for places in list(range(1, 33)) * 2:
            ends = list(range(places))
            draw.shuffle(ends)
            roads = list(enumerate(ends))
            draw.shuffle(roads)
            self.assertEqual(why(Net(places, roads)), told_why(places, roads))


class SmallNets(unittest.TestCase):
    def assert_gone_through(self, places, roads):
        net = Net(places, roads)
        rings = all_rings(roads)
        many = len(rings)
        self.assertEqual(many_rings(net), many)
        self.assertEqual(many == 0, why(net) is not None)
        told = [ring_at(net, number) for number in range(many)]
        self.assertEqual(sorted(told), sorted(rings))
        self.assertEqual([ring_number(net, ring) for ring in told], list(range(many)))
        for number in [-1, -many, -many - 1, many, many + 1]:
            if not 0 <= number < many:
                assert_refused(self, NoNumber, ring_at, net, number)

    def assert_is_ring(self, places, roads):
        net = Net(places, roads)
        for row in itertools.permutations(range(len(roads))):
            self.assertIs(is_ring(net, list(row)), is_ring_list(roads, row))

    def test_every_small_net(self):
        for places, roads in every_small_net(3, 4):
            with self.subTest(places=places, roads=roads):
                self.assert_gone_through(places, roads)
                self.assert_is_ring(places, roads)

    def test_drawn_nets(self):
        for places, roads in small_nets():
            with self.subTest(places=places, roads=roads):
                self.assert_gone_through(places, roads)
                self.assert_is_ring(places, roads)

    def test_every_list_of_numbers(self):
        for places, roads in [(1, [(0, 0)] * 3), (2, [(0, 1), (1, 0), (1, 1)]), (2, [(1, 0), (0, 1)])]:
            net = Net(places, roads)
            rings = all_rings(roads)
            for length in range(5):
                for row in itertools.product(range(-len(roads) - 1, len(roads) + 2), repeat=length):
                    ring = list(row)
                    self.assertIs(is_ring(net, ring), ring in rings)
                    if ring not in rings:
                        assert_refused(self, NoRing, ring_number, net, ring)

    def test_one_place(self):
        net = Net(1, [(0, 0)])
        self.assertEqual((many_rings(net), ring_at(net, 0), ring_number(net, [0])), (1, [0], 0))

    def test_road_0_goes_from_a_later_place(self):
        net = Net(3, [(2, 0), (0, 1), (1, 2)])
        self.assertEqual((many_rings(net), ring_at(net, 0)), (1, [0, 1, 2]))


class GreaterNets(unittest.TestCase):
    def test_how_many(self):
        for places, roads in greater_nets_with_rings():
            with self.subTest(places=places, roads=roads):
                expected = counted_trees(places, roads, roads[0][0])
                for place in range(places):
                    expected *= math.factorial(len([1 for start, _ in roads if start == place]) - 1)
                self.assertEqual(many_rings(Net(places, roads)), expected)

    def test_some_have_very_many(self):
        many = [many_rings(Net(places, roads)) for places, roads in greater_nets_with_rings()]
        self.assertGreater(len([one for one in many if one > 10**20]), 4)
        self.assertGreater(max(many), 10**60)

    def test_drawn_numbers_there_and_back(self):
        draw = random.Random(86)
        for places, roads in greater_nets_with_rings():
            net = Net(places, roads)
            with self.subTest(places=places, roads=roads):
                numbers = drawn_numbers(draw, many_rings(net), 8)
                rings = [ring_at(net, number) for number in numbers]
                self.assertEqual([ring_number(net, ring) for ring in rings], numbers)
                for ring in rings:
                    self.assertTrue(is_ring_list(roads, ring))
                    self.assertIs(is_ring(net, ring), True)

    def test_rings_put_together_otherwise(self):
        draw = random.Random(68)
        for places, roads in greater_nets_with_rings():
            net = Net(places, roads)
            for _ in range(6):
                ring = joined_ring(roads, draw)
                with self.subTest(roads=roads, ring=ring):
                    self.assertTrue(is_ring_list(roads, ring))
                    self.assertIs(is_ring(net, ring), True)
                    number = ring_number(net, ring)
                    self.assertIn(number, range(many_rings(net)))
                    self.assertEqual(ring_at(net, number), ring)

    def test_numbers_beyond(self):
        for places, roads in greater_nets_with_rings():
            net = Net(places, roads)
            many = many_rings(net)
            for number in [-1, -2, -many, -many - 1, -SIXTY_FIGURES, many, many + 1, 2 * many, many * 10**9]:
                with self.subTest(roads=roads, number=number):
                    assert_refused(self, NoNumber, ring_at, net, number)

    def test_numbers_of_sixty_figures(self):
        net = Net(1, [(0, 0)] * 64)
        for number in [10**59, SIXTY_FIGURES]:
            self.assertEqual(ring_number(net, ring_at(net, number)), number)
        for places, roads in [(1, [(0, 0)]), (8, [(one, other) for one in range(8) for other in range(8)])]:
            assert_refused(self, NoNumber, ring_at, Net(places, roads), SIXTY_FIGURES)


class NetsWithNoRing(unittest.TestCase):
    def test_how_many(self):
        for net in ringless_nets():
            self.assertEqual(many_rings(net), 0)

    def test_each_number_is_refused(self):
        for net in ringless_nets():
            for number in [0, 1, -1, 2, 10**59, SIXTY_FIGURES, -SIXTY_FIGURES]:
                with self.subTest(roads=net.roads(), number=number):
                    assert_refused(self, NoNumber, ring_at, net, number)

    def test_each_list_is_refused(self):
        for net in ringless_nets():
            many = len(net.roads())
            for ring in [[], [0], list(range(many)), [0] * many, [0] + list(range(many - 1, 0, -1)), [-1]]:
                with self.subTest(roads=net.roads(), ring=ring):
                    self.assertIs(is_ring(net, ring), False)
                    assert_refused(self, NoRing, ring_number, net, ring)

    def test_circle_over_a_part_of_the_places(self):
        net = Net(3, [(0, 1), (1, 0), (2, 2)])
        for ring in [[0, 1], [0, 1, 2], [0, 1, 0], [2], [2, 0, 1]]:
            self.assertIs(is_ring(net, ring), False)
            assert_refused(self, NoRing, ring_number, net, ring)


class WrongRings(unittest.TestCase):
    def setUp(self):
        self.roads = [(2, 0), (0, 1), (1, 2), (2, 2), (2, 1), (1, 0), (0, 2)]
        self.net = Net(3, self.roads)
        self.ring = [0, 1, 2, 3, 4, 5, 6]

    def assert_no_ring(self, ring):
        with self.subTest(ring=ring):
            self.assertIs(is_ring(self.net, ring), False)
            assert_refused(self, NoRing, ring_number, self.net, ring)

    def test_the_right_one(self):
        self.assertIs(is_ring(self.net, self.ring), True)
        self.assertEqual(ring_at(self.net, ring_number(self.net, self.ring)), self.ring)

    def test_lengths(self):
        for many in range(101):
            if many != 7:
                self.assert_no_ring((self.ring * 15)[:many])
                self.assert_no_ring((self.ring + [0] * 100)[:many])

    def test_a_road_twice(self):
        for spot in range(7):
            for road in range(7):
                if road != spot:
                    self.assert_no_ring(self.ring[:spot] + [road] + self.ring[spot + 1 :])
                self.assert_no_ring(self.ring[:spot] + [road] + self.ring[spot:])

    def test_a_road_twice_where_the_way_goes_on(self):
        net = Net(1, [(0, 0)] * 3)
        for ring in [[0, 0, 0], [0, 1, 1], [0, 2, 2], [0, 1, 0], [0, 1], [0, 1, 2, 1]]:
            self.assertIs(is_ring(net, ring), False)
            assert_refused(self, NoRing, ring_number, net, ring)

    def test_a_road_that_is_not_there(self):
        for spot in range(7):
            for road in [spot - 7, -1, -7, -8, 7, 8, spot + 7, 64, SIXTY_FIGURES, -SIXTY_FIGURES]:
                self.assert_no_ring(self.ring[:spot] + [road] + self.ring[spot + 1 :])
        self.assert_no_ring([road - 7 for road in self.ring])

    def test_not_beginning_with_road_0(self):
        for spot in range(1, 7):
            self.assert_no_ring(self.ring[spot:] + self.ring[:spot])

    def test_two_roads_that_have_changed_places(self):
        for one, other in itertools.combinations(range(7), 2):
            ring = list(self.ring)
            ring[one], ring[other] = ring[other], ring[one]
            if not is_ring_list(self.roads, ring):
                self.assert_no_ring(ring)

    def test_a_way_that_does_not_come_back(self):
        net = Net(2, [(0, 1), (1, 1), (0, 0)])
        self.assertIs(is_ring(net, [0, 1, 2]), False)
        self.assertIs(is_ring(Net(2, [(0, 0), (0, 1), (1, 1)]), [0, 1, 2]), False)
        assert_refused(self, NoRing, ring_number, Net(2, [(0, 0), (0, 1), (1, 1)]), [0, 1, 2])

    def test_greater_nets(self):
        draw = random.Random(11)
        for places, roads in greater_nets_with_rings():
            net = Net(places, roads)
            ring = joined_ring(roads, draw)
            wrong = [ring[:-1], ring + [ring[-1]], ring[1:] + ring[:1], ring[::-1]]
            wrong += [[road - len(roads) for road in ring], ring[:-1] + [ring[-1] - len(roads)], []]
            for _ in range(10):
                one, other = draw.sample(range(len(roads)), 2)
                changed = list(ring)
                changed[one], changed[other] = changed[other], changed[one]
                wrong.append(changed)
            for row in wrong:
                with self.subTest(roads=roads, ring=row):
                    self.assertIs(is_ring(net, row), is_ring_list(roads, row))
                    if not is_ring_list(roads, row):
                        assert_refused(self, NoRing, ring_number, net, row)


if __name__ == "__main__":
    unittest.main()
