"""Rings: all roads of a net, each once, round to where road 0 goes from.

A ring is told apart from all others by two things. One is a tree into the place from which road 0 goes: the exits
by which the ring leaves the other places for the last time. The other is the order in which it takes the remaining
exits of each place, all but the last one, and at the place of the tree all but road 0, which comes first. Each tree
and each such order come together in just one ring. So a number of a ring is made of a tree's number and those of
the orders.
"""

from ringbook.errors import NoNumber, NoRing
from ringbook.trees import many_trees, tree_at, tree_number


def first_place(net):
    return net.roads()[0][0]


def unlike_places(net):
    starts = [start for start, end in net.roads()]
    ends = [end for start, end in net.roads()]
    return [place for place in range(net.places()) if starts.count(place) != ends.count(place)]


def reached_places(net):
    roads = net.roads()
    reached = [first_place(net)]
    done = 0
    while done < len(reached):
        for road in net.exits(reached[done]):
            if roads[road][1] not in reached:
                reached.append(roads[road][1])
        done += 1
    return reached


def apart_places(net):
    reached = reached_places(net)
    return [place for place in range(net.places()) if place not in reached]


def why(net):
    unlike = unlike_places(net)
    if unlike:
        return ("unlike", unlike)
    apart = apart_places(net)
    if apart:
        return ("apart", apart)
    return None


def is_ring(net, ring):
    roads = net.roads()
    if sorted(ring) != list(range(len(roads))) or ring[0] != 0:
        return False
    starts = [roads[road][0] for road in ring]
    ends = [roads[road][1] for road in ring]
    return ends == starts[1:] + starts[:1]


def factorial(number):
    product = 1
    for factor in range(1, number + 1):
        product *= factor
    return product


def many_orders(net):
    """In how many ways the exits of all places can be ordered, one exit of each place being set."""
    product = 1
    for place in range(net.places()):
        product *= factorial(len(net.exits(place)) - 1)
    return product


def order_at(free, number):
    left = list(free)
    order = []
    for size in range(len(free), 0, -1):
        order.append(left.pop(number % size))
        number //= size
    return order


def order_number(order):
    left = sorted(order)
    number = 0
    factor = 1
    for road in order:
        spot = left.index(road)
        number += factor * spot
        factor *= len(left)
        left.pop(spot)
    return number


def many_rings(net):
    if why(net) is not None:
        return 0
    return many_trees(net, first_place(net)) * many_orders(net)


def exits_in_order(net, place, last, number):
    """The exits of a place as the ring takes them; last is None where road 0 comes first instead."""
    if last is None:
        return [0] + order_at([road for road in net.exits(place) if road != 0], number)
    return order_at([road for road in net.exits(place) if road != last], number) + [last]


def walked(net, orders):
    """The ring that takes the exits of each place in the order of that place's list."""
    roads = net.roads()
    taken = [0] * net.places()
    place = first_place(net)
    ring = []
    while len(ring) < len(roads):
        road = orders[place][taken[place]]
        taken[place] += 1
        ring.append(road)
        place = roads[road][1]
    return ring


def ring_at(net, number):
    if why(net) is not None:
        raise NoNumber("the net has no ring")
    many = many_orders(net)
    # A number beyond the rings, at either end, makes a number beyond the trees, which is refused there.
    tree = tree_at(net, first_place(net), number // many)
    number %= many
    orders = []
    for place in range(net.places()):
        orders.append(exits_in_order(net, place, tree[place], number))
        number //= factorial(len(orders[place]) - 1)
    return walked(net, orders)


def ring_number(net, ring):
    if not is_ring(net, ring):
        raise NoRing("the list is no ring of the net")
    roads = net.roads()
    first = first_place(net)
    tree = []
    number = 0
    many = 1
    for place in range(net.places()):
        order = [road for road in ring if roads[road][0] == place]
        tree.append(None if place == first else order[-1])
        free = order[1:] if place == first else order[:-1]
        number += many * order_number(free)
        many *= factorial(len(free))
    return tree_number(net, first, tree) * many + number
