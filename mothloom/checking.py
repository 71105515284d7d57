"""Papers checked by the rules alone: what makes a paper good for a rest, a turn and a hand."""

from mothloom.deeds import behind, behind_both, other_hand
from mothloom.orders import has_all, is_below
from mothloom.pairs import pairs_hold
from mothloom.pieces import are_apart, together
from mothloom.rests import holes_of, is_bare, is_whole
from mothloom.weights import moth_weighs, weaver_weighs


def good(paper, rest, turn, hand):
    if hand == "moth":
        return good_for_moth(paper, rest, turn)
    return good_for_weaver(paper, rest, turn)


def good_for_moth(paper, rest, turn):
    word = paper[0]
    if word == "bare":
        return is_bare(rest)
    if word == "weight":
        return moth_weighs(rest, turn)
    if turn == "moth":
        return word == "bite" and move_is_good(paper, rest, "moth")
    if word == "pairs":
        return pairs_hold(paper[1], rest)
    if word == "cases":
        return not is_whole(rest) and cases_are_good(paper[1], rest, "moth")
    if word == "parts":
        return parts_stand_for(paper[1], rest) and parts_are_good(paper[1])
    return False


def good_for_weaver(paper, rest, turn):
    word = paper[0]
    if word == "whole":
        return is_whole(rest)
    if word == "weight":
        return weaver_weighs(rest, turn)
    if word == "fewer":
        return is_below(paper[1], rest) and good(paper[2], paper[1], turn, "weaver")
    if turn == "weaver":
        return word == "knot" and move_is_good(paper, rest, "weaver")
    if word == "cases":
        return len(holes_of(rest)) > 0 and cases_are_good(paper[1], rest, "weaver")
    if word == "either":
        return either_is_good(paper, rest)
    return False


def move_is_good(paper, rest, hand):
    return good(paper[2], behind(rest, hand, paper[1]), other_hand(hand), hand)


def cases_are_good(rows, rest, hand):
    if [row[0] for row in rows] != holes_of(rest):
        return False
    for hole, reply, paper in rows:
        if not good(paper, behind_both(rest, hand, hole, reply), other_hand(hand), hand):
            return False
    return True


def parts_stand_for(rows, rest):
    rests = [row[0] for row in rows]
    # Here they may well have more strips than a rest has: that makes the paper no good and is not refused.
    strips = together(rests)
    if len(strips) > len(rest) or not are_apart(rests):
        return False
    return has_all(holes_of(rest), holes_of(strips)) and is_below(rest, strips)


def parts_are_good(rows):
    for rest, paper in rows:
        if not good(paper, rest, "weaver", "moth"):
            return False
    return True


def either_is_good(paper, rest):
    one = paper[1]
    two = paper[3]
    if not are_apart([one, two]) or not is_below(one, rest) or not is_below(two, rest):
        return False
    return good(paper[2], one, "weaver", "weaver") and good(paper[4], two, "weaver", "weaver")
