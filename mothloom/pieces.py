"""Rests beside one another: joined, apart, and the pieces of one."""

from mothloom.errors import NoRest
from mothloom.rests import MOST_STRIPS, holes_of


def together(rests):
    strips = []
    for rest in rests:
        strips.extend(rest)
    return tuple(sorted(strips))


def joined(rests):
    strips = together(rests)
    if len(strips) > MOST_STRIPS:
        raise NoRest("the rests have too many strips together")
    return strips


def are_apart(rests):
    holes = []
    for rest in rests:
        holes.extend(holes_of(rest))
    return len(set(holes)) == len(holes)


def groups_with(groups, strip):
    # The groups that the strip touches become one with it; the others stay as they are.
    merged = [strip]
    others = []
    for group in groups:
        if are_apart([group, [strip]]):
            others.append(group)
        else:
            merged.extend(group)
    return others + [merged]


def pieces(rest):
    groups = []
    for strip in rest:
        groups = groups_with(groups, strip)
    # A piece begins with the strip that has its least hole, or with its empty strip, so the pieces' own order is
    # the order that is asked for.
    return sorted([tuple(sorted(group)) for group in groups])
