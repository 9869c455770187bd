"""Nets: places, and the one-way roads between them."""

from ringbook.errors import NoNet, NoPlace

MOST_PLACES = 32
MOST_ROADS = 64


def lies_within(place, places):
    return 0 <= place < places


def ends_lie_within(roads, places):
    return all([lies_within(start, places) and lies_within(end, places) for start, end in roads])


def each_place_has_exit(roads, places):
    starts = [start for start, end in roads]
    return all([place in starts for place in range(places)])


def check_net(places, roads):
    if not 1 <= places <= MOST_PLACES:
        raise NoNet(f"a net has 1 to {MOST_PLACES} places")
    if not 1 <= len(roads) <= MOST_ROADS:
        raise NoNet(f"a net has 1 to {MOST_ROADS} roads")
    if not ends_lie_within(roads, places):
        raise NoNet("each road goes from a place of the net and leads to one")
    if not each_place_has_exit(roads, places):
        raise NoNet("from each place one road at least goes")


def check_place(place, places):
    if not lies_within(place, places):
        raise NoPlace("the net does not have that place")


class Net:
    """Places and roads, both numbered from 0."""

    def __init__(self, places, roads):
        check_net(places, roads)
        self.place_count = places
        # A list of the net's own: the one handed in may be changed later.
        self.road_pairs = [(start, end) for start, end in roads]

    def places(self):
        return self.place_count

    def roads(self):
        # A copy, so that the asker may change it and the net stays.
        return list(self.road_pairs)

    def exits(self, place):
        check_place(place, self.place_count)
        return [number for number, road in enumerate(self.road_pairs) if road[0] == place]
