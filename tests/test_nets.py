"""Points [1], [2] and [11], as far as they speak of nets."""

import itertools
import unittest

from ringbook.errors import NoNet, NoPlace
from ringbook.nets import Net
from tests.helpers import SIXTY_FIGURES, assert_refused, is_net, sample_nets

BEYOND = [-1, -2, -32, -33, -SIXTY_FIGURES, SIXTY_FIGURES, 10**59]


class WhatIsANet(unittest.TestCase):
    def test_tells_its_places_and_roads(self):
        for places, roads in sample_nets():
            with self.subTest(places=places, roads=roads):
                net = Net(places, list(roads))
                self.assertEqual(net.places(), places)
                self.assertEqual(net.roads(), roads)

    def test_roads_are_a_list_of_tuples(self):
        told = Net(2, [(0, 1), (1, 0)]).roads()
        self.assertIs(type(told), list)
        self.assertEqual([type(road) for road in told], [tuple, tuple])

    def test_smallest(self):
        net = Net(1, [(0, 0)])
        self.assertEqual((net.places(), net.roads(), net.exits(0)), (1, [(0, 0)], [0]))

    def test_greatest(self):
        roads = [(number % 32, (number * 7) % 32) for number in range(64)]
        net = Net(32, roads)
        self.assertEqual((net.places(), net.roads()), (32, roads))
        for place in range(32):
            self.assertEqual(net.exits(place), [place, place + 32])

    def test_a_place_to_which_no_road_leads(self):
        self.assertEqual(Net(2, [(0, 1), (1, 1)]).roads(), [(0, 1), (1, 1)])

    def test_every_small_list_of_roads(self):
        ends = [-1, 0, 1, 2]
        pairs = list(itertools.product(ends, ends))
        for places in range(-1, 4):
            for many in range(3):
                for roads in itertools.product(pairs, repeat=many):
                    if is_net(places, roads):
                        self.assertEqual(Net(places, list(roads)).roads(), list(roads))
                    else:
                        assert_refused(self, NoNet, Net, places, list(roads))


class WhatIsNoNet(unittest.TestCase):
    def test_number_of_places(self):
        for places in [0, -1, -SIXTY_FIGURES, 33, 34, 64, 10**59, SIXTY_FIGURES]:
            with self.subTest(places=places):
                assert_refused(self, NoNet, Net, places, [(0, 0)])
                assert_refused(self, NoNet, Net, places, [])

    def test_33_places_with_an_exit_each(self):
        assert_refused(self, NoNet, Net, 33, [(place, 0) for place in range(33)])

    def test_no_places_and_no_roads(self):
        assert_refused(self, NoNet, Net, 0, [])

    def test_number_of_roads(self):
        for many in [0, 65, 66, 100]:
            with self.subTest(many=many):
                assert_refused(self, NoNet, Net, 1, [(0, 0)] * many)

    def test_road_end_that_is_not_there(self):
        for end in BEYOND + [2, 3, 32]:
            for wrong in [(0, end), (end, 0), (end, end)]:
                for at in range(3):
                    roads = [(0, 1), (1, 0)]
                    roads.insert(at, wrong)
                    with self.subTest(roads=roads):
                        assert_refused(self, NoNet, Net, 2, roads)

    def test_place_without_an_exit(self):
        for places in [2, 3, 32]:
            for bare in range(places):
                roads = [(place, bare) for place in range(places) if place != bare]
                with self.subTest(places=places, bare=bare):
                    assert_refused(self, NoNet, Net, places, roads)


class Exits(unittest.TestCase):
    def test_rising_and_all_there(self):
        for places, roads in sample_nets():
            net = Net(places, roads)
            for place in range(places):
                with self.subTest(places=places, roads=roads, place=place):
                    expected = [number for number in range(len(roads)) if roads[number][0] == place]
                    self.assertEqual(net.exits(place), expected)

    def test_roads_out_of_order(self):
        net = Net(3, [(2, 0), (0, 2), (2, 2), (1, 0), (0, 2), (2, 1)])
        self.assertEqual([net.exits(place) for place in range(3)], [[1, 4], [3], [0, 2, 5]])

    def test_place_that_is_not_there(self):
        for places, roads in sample_nets():
            net = Net(places, roads)
            for place in BEYOND + [-places, places, places + 1]:
                with self.subTest(places=places, place=place):
                    assert_refused(self, NoPlace, net.exits, place)


class NothingHangsTogether(unittest.TestCase):
    def setUp(self):
        self.handed = [(0, 1), (1, 0), (0, 0)]
        self.net = Net(2, self.handed)

    def assert_net_stays(self):
        self.assertEqual(self.net.places(), 2)
        self.assertEqual(self.net.roads(), [(0, 1), (1, 0), (0, 0)])
        self.assertEqual([self.net.exits(0), self.net.exits(1)], [[0, 2], [1]])

    def test_handed_in_is_not_changed(self):
        self.assert_net_stays()
        self.assertEqual(self.handed, [(0, 1), (1, 0), (0, 0)])

    def test_handed_in_and_refused_is_not_changed(self):
        roads = [(1, 1), (0, 5), (0, 0)]
        assert_refused(self, NoNet, Net, 2, roads)
        self.assertEqual(roads, [(1, 1), (0, 5), (0, 0)])

    def test_handed_in_is_not_kept(self):
        self.handed[0] = (1, 1)
        self.handed.append((1, 1))
        self.assert_net_stays()
        self.handed.clear()
        self.assert_net_stays()

    def test_told_roads_are_the_askers_own(self):
        first = self.net.roads()
        second = self.net.roads()
        first[0] = (1, 1)
        first.append((1, 1))
        self.assertEqual(second, [(0, 1), (1, 0), (0, 0)])
        self.assert_net_stays()

    def test_told_exits_are_the_askers_own(self):
        first = self.net.exits(0)
        second = self.net.exits(0)
        first.append(1)
        first[0] = 9
        self.assertEqual(second, [0, 2])
        self.assert_net_stays()

    def test_two_nets_of_one_list(self):
        other = Net(2, self.handed)
        other.roads().clear()
        self.handed.clear()
        self.assert_net_stays()
        self.assertEqual(other.roads(), [(0, 1), (1, 0), (0, 0)])


if __name__ == "__main__":
    unittest.main()
