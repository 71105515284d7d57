"""Looms: a count of holes, and the ribbons that run through some of them."""

from mothloom.errors import NoLoom, NoRibbon
from mothloom.rests import HOLE_COUNT, MOST_STRIPS, each_once, is_number_below, rest_made


def check_ribbon(ribbon, count):
    if len(ribbon) == 0:
        raise NoRibbon("a ribbon has no hole")
    # All members are looked at ahead of each_once: what is no hole may not go into a set.
    for thing in ribbon:
        if not is_number_below(thing, count):
            raise NoRibbon("a ribbon has something that is no hole of the loom")
    if not each_once(ribbon):
        raise NoRibbon("a ribbon has a hole more than once")


def loom_made(count, ribbons):
    if not is_number_below(count, HOLE_COUNT + 1):
        raise NoLoom("the count of holes is no whole number from 0 to 60")
    if len(ribbons) > MOST_STRIPS:
        raise NoRibbon("a loom has too many ribbons")
    for ribbon in ribbons:
        check_ribbon(ribbon, count)
    return (count, rest_made(ribbons))
