"""Trees into a place: how many there are, the one of a number, and the number of one."""

from ringbook.errors import NoNumber, NoTree
from ringbook.nets import check_place


def lone_row(stop, places):
    return [1 if place == stop else 0 for place in range(places)]


class Tally:
    """How many ways lead everyone out of a net, each place having taken one of its roads.

    At first each place has one road, straight out. The places are given their own roads one by one, all but the goal
    of the trees: then the ways out are the trees into the goal.

    stopped[stop][place] counts other ways: each place but the stop takes one of its roads, everyone comes out or to
    the stop, and whoever goes from that place comes to the stop.

    By the matrix-tree theorem `many` is the determinant of a matrix with a row for each place, and stopped[stop] holds
    the cofactors of the row of the stop. To give a place its roads is to change its row.
    """

    def __init__(self, places):
        self.many = 1
        self.stopped = [lone_row(stop, places) for stop in range(places)]

    def many_by(self, place, end):
        # A road to that end leads out with each way by which the end does not come back to the place.
        return self.stopped[place][place] - self.stopped[place][end]

    def changed_row(self, stop, place, ends, many):
        row = self.stopped[stop]
        if stop == place:
            # The cofactors of a row do not hang on that row.
            return row
        shift = sum([row[place] - row[end] for end in ends])
        # What comes out is a cofactor again, so the division leaves no rest.
        return [(many * old - shift * cut) // self.many for old, cut in zip(row, self.stopped[place])]

    def give_roads(self, place, ends):
        """The place has just the roads to these ends, whatever it had before. There must be a way out so far."""
        many = sum([self.many_by(place, end) for end in ends])
        self.stopped = [self.changed_row(stop, place, ends, many) for stop in range(len(self.stopped))]
        self.many = many


def other_places(net, goal):
    return [place for place in range(net.places()) if place != goal]


def whole_tally(net, goal):
    roads = net.roads()
    tally = Tally(net.places())
    for place in other_places(net, goal):
        # With no way out while the later places go straight out, there is none by their own roads either.
        if tally.many > 0:
            tally.give_roads(place, [roads[road][1] for road in net.exits(place)])
    return tally


def many_trees(net, place):
    check_place(place, net.places())
    return whole_tally(net, place).many


def many_ahead(net, tally, place, road):
    """How many of the tally's trees go from the place by a lesser exit than this road."""
    roads = net.roads()
    return sum([tally.many_by(place, roads[lesser][1]) for lesser in net.exits(place) if lesser < road])


def entry_at(net, tally, place, number):
    """The exit by which the tree of that number among the tally's goes from the place."""
    fitting = [road for road in net.exits(place) if many_ahead(net, tally, place, road) <= number]
    return fitting[-1]


def tree_at(net, place, number):
    check_place(place, net.places())
    tally = whole_tally(net, place)
    if not 0 <= number < tally.many:
        raise NoNumber("the number is below 0, or not below how many there are")
    roads = net.roads()
    tree = [None] * net.places()
    for other in other_places(net, place):
        road = entry_at(net, tally, other, number)
        number -= many_ahead(net, tally, other, road)
        tally.give_roads(other, [roads[road][1]])
        tree[other] = road
    return tree


def comes_to_none(roads, tree, place):
    # Whoever has not come there in fewer steps than there are places goes round and round.
    for step in range(len(tree)):
        if tree[place] is None:
            return True
        place = roads[tree[place]][1]
    return False


def is_tree(net, goal, tree):
    if len(tree) != net.places() or tree[goal] is not None:
        return False
    if not all([tree[place] in net.exits(place) for place in other_places(net, goal)]):
        return False
    roads = net.roads()
    return all([comes_to_none(roads, tree, place) for place in range(net.places())])


def tree_number(net, place, tree):
    check_place(place, net.places())
    if not is_tree(net, place, tree):
        raise NoTree("the list is no tree into that place")
    roads = net.roads()
    tally = whole_tally(net, place)
    number = 0
    for other in other_places(net, place):
        number += many_ahead(net, tally, other, tree[other])
        tally.give_roads(other, [roads[tree[other]][1]])
    return number
