"""Playing by papers: the first move, the answers, and the knots that a weaver's paper needs."""

from mothloom.deeds import behind, behind_both, other_hand
from mothloom.pairs import mate
from mothloom.pieces import together
from mothloom.rests import holes_of
from mothloom.weights import heaviest


def first(paper, rest, hand):
    word = paper[0]
    if word == "fewer":
        return first(paper[2], paper[1], hand)
    if word == "weight":
        reply = heaviest(rest)
        return (reply, behind(rest, hand, reply), paper)
    if word == "bite" or word == "knot":
        return (paper[1], behind(rest, hand, paper[1]), paper[2])
    return (None, rest, paper)


def answer(paper, rest, hand, hole):
    word = paper[0]
    if word == "weight":
        reply = heaviest(behind(rest, other_hand(hand), hole))
        return (reply, behind_both(rest, hand, hole, reply), paper)
    if word == "pairs":
        reply = mate(paper[1], hole)
        return (reply, behind_both(rest, hand, hole, reply), paper)
    if word == "cases":
        return answer_by_cases(paper, rest, hand, hole)
    if word == "parts":
        return answer_by_parts(paper[1], hand, hole)
    if word == "fewer":
        return answer(paper[2], paper[1], hand, hole)
    if word == "either":
        return answer_by_either(paper, hand, hole)
    return (None, rest, paper)


def row_with(rows, hole):
    for row in rows:
        if row[0] == hole:
            return row
    return None


def answer_by_cases(paper, rest, hand, hole):
    row = row_with(paper[1], hole)
    if row is None and hand == "moth":
        return (None, rest, paper)
    if row is None:
        # A bite beside the rest does the weaver no harm, so any other may be thought in its place.
        row = paper[1][0]
    return (row[1], behind_both(rest, hand, row[0], row[1]), row[2])


def answer_by_parts(rows, hand, hole):
    reply = None
    kept = []
    for rest, paper in rows:
        if hole in holes_of(rest):
            told = answer(paper, rest, hand, hole)
            reply = told[0]
            kept.append((told[1], told[2]))
        else:
            kept.append((rest, paper))
    return (reply, together([row[0] for row in kept]), ("parts", tuple(kept)))


def answer_by_either(paper, hand, hole):
    if hole in holes_of(paper[1]):
        return first(paper[4], paper[3], hand)
    return first(paper[2], paper[1], hand)


def knots_needed(paper, rest):
    word = paper[0]
    if word == "weight":
        return len(holes_of(rest))
    if word == "knot":
        return 1 + knots_needed(paper[2], behind(rest, "weaver", paper[1]))
    if word == "fewer":
        return knots_needed(paper[2], paper[1])
    if word == "cases":
        rows = [(row[2], behind_both(rest, "weaver", row[0], row[1])) for row in paper[1]]
        return 1 + max([knots_needed(row[0], row[1]) for row in rows])
    if word == "either":
        return max(knots_needed(paper[2], paper[1]), knots_needed(paper[4], paper[3]))
    return 0
