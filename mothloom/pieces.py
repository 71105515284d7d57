"""Rests beside one another: joined, apart, and the pieces of one."""

from mothloom.errors import NoRest
from mothloom.rests import MOST_STRIPS, each_once, holes_of, members_of


def together(rests):
    return tuple(sorted(members_of(rests)))


def joined(rests):
    strips = together(rests)
    if len(strips) > MOST_STRIPS:
        raise NoRest("the rests have too many strips together")
    return strips


def are_apart(rests):
    return each_once(members_of([holes_of(rest) for rest in rests]))


def groups_with(groups, strip):
    # The groups that the strip touches become one with it; the others stay as they are.
    merged = [strip]
    others = []
    for group in groups:
        if are_apart([group, [strip]]):
            others.append(group)
        else:
            merged.extend(group)
    return others + [merged]


def pieces(rest):
    groups = []
    for strip in rest:
        groups = groups_with(groups, strip)
    # A piece begins with the strip that has its least hole, or with its empty strip, so the pieces' own order is
    # the order that is asked for.
    return sorted([tuple(sorted(group)) for group in groups])
