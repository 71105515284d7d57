"""Rests beside one another: below, the footing, thinned."""


def has_all(strip, other):
    return len(set(other) - set(strip)) == 0


def least_place(strip, rest):
    for place, other in enumerate(rest):
        if has_all(strip, other):
            return place
    return None


def footing(rest, other):
    return [least_place(strip, other) for strip in rest]


def is_below(rest, other):
    return None not in footing(rest, other)


def is_needless(strip, rest):
    return any([other != strip and has_all(strip, other) for other in rest])


def thinned(rest):
    kept = []
    for strip in rest:
        if strip not in kept and not is_needless(strip, rest):
            kept.append(strip)
    return tuple(kept)
