"""Small rests, all of them, for the tests that try each."""

import itertools


def small_rests(holes=3, most=3):
    """Each rest of at most that many strips over the holes below that count."""
    strips = []
    for size in range(holes + 1):
        strips.extend(itertools.combinations(range(holes), size))
    for count in range(most + 1):
        yield from itertools.combinations_with_replacement(sorted(strips), count)
