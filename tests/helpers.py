"""What several tests use."""

from ringbook import errors

REFUSALS = (
    errors.NoNet,
    errors.NoWords,
    errors.NotRead,
    errors.NoPlace,
    errors.NoTree,
    errors.NoRing,
    errors.NoNumber,
)

SIXTY_FIGURES = 10**60 - 1


def assert_refused(case, refusal, call, *handed):
    """The call is refused with that class, and with no other of the seven."""
    with case.assertRaises(refusal) as caught:
        call(*handed)
    error = caught.exception
    case.assertIsInstance(error, errors.BookError)
    case.assertIsInstance(error, ValueError)
    case.assertEqual([one for one in REFUSALS if isinstance(error, one)], [refusal])


def is_net(places, roads):
    """Point [2], told apart from the program."""
    return (
        1 <= places <= 32
        and 1 <= len(roads) <= 64
        and all(0 <= end < places for road in roads for end in road)
        and {start for start, _ in roads} == set(range(places))
    )


def sample_nets():
    """Nets of many shapes, as pairs of places and roads."""
    circle = [(place, (place + 1) % 32) for place in range(32)]
    return [
        (1, [(0, 0)]),
        (1, [(0, 0)] * 64),
        (2, [(0, 1), (1, 0), (1, 1)]),
        (2, [(1, 0), (0, 1), (1, 0), (0, 1), (1, 0)]),
        (3, [(2, 2), (1, 1), (0, 0)]),
        (3, [(0, 2), (1, 2), (2, 2)]),
        (11, [(place, 10 - place) for place in range(11)] + [(10, 10), (9, 10), (10, 9)]),
        (32, circle),
        (32, circle + [(end, start) for start, end in circle]),
        (32, [(place, 31) for place in range(32)] + [(31, 31)] * 32),
    ]
