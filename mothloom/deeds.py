"""What the deeds of both hands make of a rest."""

from mothloom.rests import bitten, knotted


def other_hand(hand):
    return "moth" if hand == "weaver" else "weaver"


def behind(rest, hand, reply):
    if reply is None:
        return rest
    return knotted(rest, reply) if hand == "weaver" else bitten(rest, reply)


def behind_both(rest, hand, hole, reply):
    # The hole is the other hand's, the reply is the hand's own.
    return behind(behind(rest, other_hand(hand), hole), hand, reply)
