"""Rests: what a play is still about, and what a knot or a bite makes of it."""

from mothloom.errors import NoRest

HOLE_COUNT = 60
MOST_STRIPS = 60


def is_number_below(thing, bound):
    # Python counts a truth among the ints; here it is no whole number.
    if isinstance(thing, bool) or not isinstance(thing, int):
        return False
    return 0 <= thing < bound


def members_of(rows):
    members = []
    for row in rows:
        members.extend(row)
    return members


def each_once(members):
    return len(set(members)) == len(members)


def strip_made(row):
    # All members are looked at ahead of the set: what is no hole may not go into one.
    for thing in row:
        if not is_number_below(thing, HOLE_COUNT):
            raise NoRest("a strip has something that is no hole")
    return tuple(sorted(set(row)))


def rest_made(strips):
    if len(strips) > MOST_STRIPS:
        raise NoRest("a rest has too many strips")
    return tuple(sorted([strip_made(row) for row in strips]))


def strip_without(strip, hole):
    return tuple([other for other in strip if other != hole])


def knotted(rest, hole):
    # A strip that loses a hole may belong elsewhere in the order.
    return tuple(sorted([strip_without(strip, hole) for strip in rest]))


def bitten(rest, hole):
    return tuple([strip for strip in rest if hole not in strip])


def holes_of(rest):
    return sorted(set(members_of(rest)))


def is_whole(rest):
    return () in rest


def is_bare(rest):
    return len(rest) == 0
