"""What several tests use."""

import itertools
import random
from fractions import Fraction

from ringbook import errors

REFUSALS = (
    errors.NoNet,
    errors.NoWords,
    errors.NotRead,
    errors.NoPlace,
    errors.NoTree,
    errors.NoRing,
    errors.NoNumber,
)

SIXTY_FIGURES = 10**60 - 1


def assert_refused(case, refusal, call, *handed):
    """The call is refused with that class, and with no other of the seven."""
    with case.assertRaises(refusal) as caught:
        call(*handed)
    error = caught.exception
    case.assertIsInstance(error, errors.BookError)
    case.assertIsInstance(error, ValueError)
    case.assertEqual([one for one in REFUSALS if isinstance(error, one)], [refusal])


def is_net(places, roads):
    """Point [2], told apart from the program."""
    return (
        1 <= places <= 32
        and 1 <= len(roads) <= 64
        and all(0 <= end < places for road in roads for end in road)
        and {start for start, _ in roads} == set(range(places))
    )


def sample_nets():
    """Nets of many shapes, as pairs of places and roads."""
    circle = [(place, (place + 1) % 32) for place in range(32)]
    return [
        (1, [(0, 0)]),
        (1, [(0, 0)] * 64),
        (2, [(0, 1), (1, 0), (1, 1)]),
        (2, [(1, 0), (0, 1), (1, 0), (0, 1), (1, 0)]),
        (3, [(2, 2), (1, 1), (0, 0)]),
        (3, [(0, 2), (1, 2), (2, 2)]),
        (11, [(place, 10 - place) for place in range(11)] + [(10, 10), (9, 10), (10, 9)]),
        (32, circle),
        (32, circle + [(end, start) for start, end in circle]),
        (32, [(place, 31) for place in range(32)] + [(31, 31)] * 32),
    ]


def exits_of(places, roads):
    """The exits of each place, told apart from the program."""
    return [[road for road in range(len(roads)) if roads[road][0] == place] for place in range(places)]


def is_tree_list(places, roads, goal, tree):
    """Point [4], told apart from the program: from the goal backwards, every place is come to."""
    if len(tree) != places or tree[goal] is not None:
        return False
    exits = exits_of(places, roads)
    if any(tree[place] not in exits[place] for place in range(places) if place != goal):
        return False
    home = {goal}
    for _ in range(places):
        home |= {place for place in range(places) if place != goal and roads[tree[place]][1] in home}
    return len(home) == places


def all_trees(places, roads, goal):
    """All trees into a place in their order: every list of exits is gone through."""
    exits = exits_of(places, roads)
    exits[goal] = [None]
    return [list(one) for one in itertools.product(*exits) if is_tree_list(places, roads, goal, list(one))]


def is_tree_ahead(tree, other):
    """Point [5], told apart from the program."""
    for mine, its in zip(tree, other):
        if mine != its:
            return mine < its
    return False


def counted_trees(places, roads, goal):
    """How many trees there are, by a determinant in fractions."""
    others = [place for place in range(places) if place != goal]
    rows = [[Fraction(0)] * places for _ in range(places)]
    for start, end in roads:
        rows[start][start] += 1
        rows[start][end] -= 1
    matrix = [[rows[row][column] for column in others] for row in others]
    product = Fraction(1)
    for at in range(len(matrix)):
        pivot = next((row for row in range(at, len(matrix)) if matrix[row][at] != 0), None)
        if pivot is None:
            return 0
        if pivot != at:
            matrix[at], matrix[pivot] = matrix[pivot], matrix[at]
            product = -product
        product *= matrix[at][at]
        for row in range(at + 1, len(matrix)):
            share = matrix[row][at] / matrix[at][at]
            matrix[row] = [mine - share * its for mine, its in zip(matrix[row], matrix[at])]
    return int(product)


def is_ring_list(roads, ring):
    """Point [6], told apart from the program."""
    if len(ring) != len(roads) or set(ring) != set(range(len(roads))) or ring[0] != 0:
        return False
    place = roads[0][0]
    for road in ring:
        if roads[road][0] != place:
            return False
        place = roads[road][1]
    return place == roads[0][0]


def all_rings(roads):
    """All rings: every row of all roads is gone through."""
    rows = itertools.permutations(range(len(roads)))
    return [list(row) for row in rows if is_ring_list(roads, row)]


def told_why(places, roads):
    """Point [7], told apart from the program."""
    unlike = [
        place
        for place in range(places)
        if len([1 for start, _ in roads if start == place]) != len([1 for _, end in roads if end == place])
    ]
    if unlike:
        return ("unlike", unlike)
    reached = {roads[0][0]}
    for _ in range(places):
        reached |= {end for start, end in roads if start in reached}
    apart = [place for place in range(places) if place not in reached]
    return ("apart", apart) if apart else None


def joined_ring(roads, draw):
    """A ring of a net that has one, put together from drawn circles, each joined where it can be."""
    left = list(range(1, len(roads)))
    draw.shuffle(left)

    def circle(path, home):
        while roads[path[-1]][1] != home:
            path.append(next(road for road in left if roads[road][0] == roads[path[-1]][1]))
            left.remove(path[-1])
        return path

    ring = circle([0], roads[0][0])
    while left:
        spot, road = next(
            (spot, road) for spot, behind in enumerate(ring) for road in left if roads[road][0] == roads[behind][1]
        )
        left.remove(road)
        ring[spot + 1 : spot + 1] = circle([road], roads[road][0])
    return ring


def every_small_net(most_places, most_roads):
    """Every net of at most so many places and roads."""
    for places in range(1, most_places + 1):
        pairs = list(itertools.product(range(places), repeat=2))
        for many in range(places, most_roads + 1):
            for roads in itertools.product(pairs, repeat=many):
                if is_net(places, roads):
                    yield (places, list(roads))


def drawn_net(draw, places, many):
    """A net of so many places and roads, drawn."""
    starts = list(range(places)) + [draw.randrange(places) for _ in range(many - places)]
    draw.shuffle(starts)
    return (places, [(start, draw.randrange(places)) for start in starts])


def drawn_net_with_rings(draw, places, many):
    """A net of so many places and roads that has a ring: the steps of a drawn closed walk."""
    walk = list(range(places)) + [draw.randrange(places) for _ in range(many - places)]
    draw.shuffle(walk)
    roads = list(zip(walk, walk[1:] + walk[:1]))
    draw.shuffle(roads)
    return (places, roads)


def greater_nets_with_rings():
    """Nets with rings, up to 32 places and 64 roads."""
    draw = random.Random(8)
    circle = [(place, (place + 1) % 32) for place in range(32)]
    sizes = [(1, 64), (2, 64), (3, 40), (5, 64), (8, 64), (12, 64), (16, 64), (20, 64), (31, 64), (32, 64), (32, 64)]
    return [drawn_net_with_rings(draw, places, many) for places, many in sizes] + [
        (32, circle),
        (32, circle * 2),
        (32, circle + [(end, start) for start, end in circle]),
        (8, [(start, end) for start in range(8) for end in range(8)]),
    ]


def drawn_numbers(draw, many, how_many):
    """Rising numbers from 0 to below many, the first and the last among them."""
    return sorted({0, many - 1} | {draw.randrange(many) for _ in range(how_many)})


WORD_SIZES = [(signs, size) for signs in range(1, 7) for size in range(1, 7) if signs**size <= 64]


def is_word_ring(signs, size, ring):
    """Point [10], told apart from the program."""
    if len(ring) != signs**size or any(sign not in range(signs) for sign in ring):
        return False
    round_and_on = list(ring) * (size + 1)
    words = {tuple(round_and_on[at : at + size]) for at in range(len(ring))}
    # Size times round goes behind the list, so that a word can end at its first sign.
    ending_at_first = (list(ring) * size + [ring[0]])[-size:]
    return len(words) == signs**size and ending_at_first == [0] * size
