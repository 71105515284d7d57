"""Threats: knots that the moth must answer at once, until some strip is down to one hole."""

from mothloom.deeds import behind_both
from mothloom.rests import is_whole


def short_strips(rest, deep):
    # Each knot takes one hole out of a strip, so a longer one is never down to one hole in that many.
    return tuple(sorted(set([strip for strip in rest if len(strip) <= deep + 1])))


def helps_another(strips, hole, bite):
    # Without such a strip the knot leaves nothing that was not there ahead of it.
    return any([hole in strip and bite not in strip for strip in strips])


def threats_in(strips):
    told = []
    for strip in strips:
        if len(strip) == 2:
            told.extend([strip, (strip[1], strip[0])])
    return [threat for threat in told if helps_another(strips, threat[0], threat[1])]


def last_knot(strips):
    if is_whole(strips):
        return ("whole",)
    for strip in strips:
        if len(strip) == 1:
            return ("knot", strip[0], ("whole",))
    return None


def next_threat(strips, deep):
    for hole, bite in threats_in(strips):
        left = short_strips(behind_both(strips, "moth", hole, bite), deep - 1)
        paper = forced_among(left, deep - 1)
        if paper is not None:
            unanswered = ("knot", bite, ("whole",))
            return ("knot", hole, ("either", ((bite,),), unanswered, left, paper))
    return None


def forced_among(strips, deep):
    paper = last_knot(strips)
    if paper is None and deep > 0:
        paper = next_threat(strips, deep)
    return paper


def forced(rest, deep=2):
    return forced_among(short_strips(rest, deep), deep)
