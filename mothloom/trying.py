"""Trying all plays of a rest of few holes: who wins, and a paper that says so."""

from mothloom.deeds import behind, other_hand
from mothloom.errors import TooLarge
from mothloom.rests import holes_of, is_bare, is_whole

MOST_TRIED = 6


def can_be_tried(rest):
    return len(holes_of(rest)) <= MOST_TRIED


def check_size(rest):
    if not can_be_tried(rest):
        raise TooLarge("the rest has too many holes to try all plays")


def winning_hole(rest, turn, known):
    for hole in holes_of(rest):
        if winner_known(behind(rest, turn, hole), other_hand(turn), known) == turn:
            return hole
    return None


def winner_known(rest, turn, known):
    # Many plays lead to one rest: each is tried once, and known from then on.
    if is_whole(rest):
        return "weaver"
    if is_bare(rest):
        return "moth"
    if (rest, turn) not in known:
        hole = winning_hole(rest, turn, known)
        known[(rest, turn)] = other_hand(turn) if hole is None else turn
    return known[(rest, turn)]


def move_told(rest, hand, known):
    # The hand wins with its own turn and the rest is not over, so there is such a hole.
    hole = winning_hole(rest, hand, known)
    return (hole, paper_told(behind(rest, hand, hole), other_hand(hand), hand, known))


def paper_told(rest, turn, hand, known):
    if is_whole(rest):
        return ("whole",)
    if is_bare(rest):
        return ("bare",)
    if turn == hand:
        word = "knot" if hand == "weaver" else "bite"
        return (word,) + move_told(rest, hand, known)
    rows = [(hole,) + move_told(behind(rest, turn, hole), hand, known) for hole in holes_of(rest)]
    return ("cases", tuple(rows))


def winner_by_trying(rest, turn):
    check_size(rest)
    return winner_known(rest, turn, {})


def tried(rest, turn):
    check_size(rest)
    known = {}
    hand = winner_known(rest, turn, known)
    return (hand, paper_told(rest, turn, hand, known))
