"""Weights: a rest that is light enough for the moth, or heavy enough for the weaver."""

from mothloom.rests import bitten, holes_of, is_whole

# 2 ** 60, written out: a strip of 60 holes still weighs a whole number.
UNIT = 1152921504606846976


def strip_weight(strip):
    # Halved once for each hole.
    return UNIT >> len(strip)


def weight(rest):
    return sum([strip_weight(strip) for strip in rest])


def pulls(rest):
    pull_of = {}
    for strip in rest:
        for hole in strip:
            pull_of[hole] = pull_of.get(hole, 0) + strip_weight(strip)
    return pull_of


def pull(rest, hole):
    return pulls(rest).get(hole, 0)


def heaviest(rest):
    pull_of = pulls(rest)
    best = None
    for hole in sorted(pull_of):
        if best is None or pull_of[hole] > pull_of[best]:
            best = hole
    return best


def greatest_pull(rest):
    return max([0] + list(pulls(rest).values()))


def twos_of(strip):
    twos = []
    for place, low in enumerate(strip):
        twos.extend([(low, high) for high in strip[place + 1:]])
    return twos


def most_shared(rest):
    count_of = {}
    for strip in rest:
        for two in twos_of(strip):
            count_of[two] = count_of.get(two, 0) + 1
    return max([0] + list(count_of.values()))


def moth_weighs(rest, turn="weaver"):
    if turn == "moth":
        return weight(rest) < UNIT
    return weight(rest) + greatest_pull(rest) < UNIT


def is_heavy(rest):
    return 4 * weight(rest) > UNIT * most_shared(rest) * (len(holes_of(rest)) // 2)


def weaver_weighs(rest, turn="weaver"):
    if turn == "weaver":
        return is_heavy(rest)
    if is_whole(rest):
        return True
    return is_heavy(rest) and all([is_heavy(bitten(rest, hole)) for hole in holes_of(rest)])
