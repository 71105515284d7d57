"""Pairs: two holes of each strip for the moth to answer by, or a crowd of strips that has too few."""

from mothloom.orders import has_all
from mothloom.rests import each_once, members_of


def has_a_pair(strip, pairs):
    return any([has_all(strip, pair) for pair in pairs])


def pairs_hold(pairs, rest):
    # This sees a pair of two like holes as well as a hole in two pairs.
    if not each_once(members_of(pairs)):
        return False
    return all([has_a_pair(strip, pairs) for strip in rest])


def mate(pairs, hole):
    for pair in pairs:
        if pair[0] == hole:
            return pair[1]
        if pair[1] == hole:
            return pair[0]
    return None


def takes_a_hole(rest, place, keeper, seen):
    # A hole that a strip keeps is free for another one where its keeper can take one more hole instead.
    for hole in rest[place]:
        if hole not in seen:
            seen[hole] = True
            if hole not in keeper or takes_a_hole(rest, keeper[hole], keeper, seen):
                keeper[hole] = place
                return True
    return False


def crowd_around(place, keeper, seen):
    # No hole seen was to be had: these strips have none but the seen ones, and the one at the place keeps fewer
    # than two of them, the others at most two each.
    return sorted(set([place] + [keeper[hole] for hole in seen]))


def kept_by(place, keeper):
    return tuple(sorted([hole for hole in keeper if keeper[hole] == place]))


def own_pairs(rest):
    keeper = {}
    for seat in range(2 * len(rest)):
        seen = {}
        if not takes_a_hole(rest, seat // 2, keeper, seen):
            return ("crowd", crowd_around(seat // 2, keeper, seen))
    return ("pairs", [kept_by(place, keeper) for place in range(len(rest))])
