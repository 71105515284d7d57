"""Settling: which hand has a rest with a turn, and a paper that says so; or that it is open."""

from mothloom.orders import thinned
from mothloom.pairs import own_pairs
from mothloom.pieces import pieces
from mothloom.rests import bitten, is_bare, is_whole
from mothloom.threats import forced
from mothloom.trying import can_be_tried, tried
from mothloom.weights import moth_weighs, weaver_weighs


def by_pieces(tellings, turn):
    moving_first = [telling for telling in tellings if telling[0] == "weaver"]
    moving_second = [telling for telling in tellings if telling[1] == "weaver"]
    if turn == "weaver":
        return "weaver" if len(moving_first) > 0 else "moth"
    # The moth bites in one piece alone: of two that the weaver wins by moving first, one is left.
    return "weaver" if len(moving_second) > 0 or len(moving_first) > 1 else "moth"


def is_small(rest):
    return all([can_be_tried(piece) for piece in pieces(thinned(rest))])


def settled_at_sight(rest, turn):
    if is_whole(rest):
        return ("weaver", ("whole",))
    if is_bare(rest):
        return ("moth", ("bare",))
    if weaver_weighs(rest, turn):
        return ("weaver", ("weight",))
    if moth_weighs(rest, turn):
        return ("moth", ("weight",))
    return None


def behind_bite(turn, reply, paper):
    return ("bite", reply, paper) if turn == "moth" else paper


def settled_by_pairs(rest, turn):
    # A strip that thinning leaves out has all holes of one that stays, so that one's pair, too.
    told = own_pairs(thinned(rest))
    if told[0] == "crowd":
        return None
    return ("moth", behind_bite(turn, None, ("pairs", tuple(told[1]))))


def settled_by_threats(rest, turn):
    # Twelve strips are promised; sixty are soon looked through as well.
    paper = forced(rest) if turn == "weaver" else None
    return None if paper is None else ("weaver", paper)


def weaver_paper(rows, turn):
    for piece, first_told, second_told in rows:
        told = first_told if turn == "weaver" else second_told
        if told[0] == "weaver":
            return ("fewer", piece, told[1])
    won = [(row[0], row[1][1]) for row in rows if row[1][0] == "weaver"]
    return ("either",) + won[0] + won[1]


def moth_paper(rows, turn):
    reply = None
    parts = []
    for piece, first_told, second_told in rows:
        if first_told[0] == "moth":
            parts.append((piece, first_told[1]))
        else:
            # There is one such piece at most, and the moth is to move: the paper of that piece is a bite.
            bite = second_told[1]
            reply = bite[1]
            parts.append((bitten(piece, reply), bite[2]))
    return behind_bite(turn, reply, ("parts", tuple(parts)))


def settled_by_trying(rest, turn):
    rows = [(piece, tried(piece, "weaver"), tried(piece, "moth")) for piece in pieces(thinned(rest))]
    hand = by_pieces([(row[1][0], row[2][0]) for row in rows], turn)
    return (hand, weaver_paper(rows, turn) if hand == "weaver" else moth_paper(rows, turn))


def settled(rest, turn="weaver"):
    told = settled_at_sight(rest, turn)
    if told is None:
        told = settled_by_pairs(rest, turn)
    if told is None:
        told = settled_by_threats(rest, turn)
    if told is None and is_small(rest):
        told = settled_by_trying(rest, turn)
    return told
