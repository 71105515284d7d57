"""Small rests, all of them, for the tests that try each."""

import itertools


def small_rests(holes=3, most=3):
    """Each rest of at most that many strips over the holes below that count."""
    strips = []
    for size in range(holes + 1):
        strips.extend(itertools.combinations(range(holes), size))
    for count in range(most + 1):
        yield from itertools.combinations_with_replacement(sorted(strips), count)


def is_a_rest(thing):
    """Whether it is a rest, kinds and orders and all."""
    if type(thing) is not tuple or len(thing) > 60 or list(thing) != sorted(thing):
        return False
    for strip in thing:
        if type(strip) is not tuple or list(strip) != sorted(set(strip)):
            return False
        if not all(type(hole) is int and 0 <= hole < 60 for hole in strip):
            return False
    return True


def random_rest(chance, holes, most_strips, least_size=0):
    """A rest drawn by a random.Random with a written seed."""
    strips = []
    for _ in range(chance.randint(0, most_strips)):
        size = chance.randint(least_size, holes)
        strips.append(tuple(sorted(chance.sample(range(holes), size))))
    return tuple(sorted(strips))
