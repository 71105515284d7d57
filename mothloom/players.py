"""Players: asked for a hole at their turns, told of each deed; and tables played out by two of them."""

from mothloom.following import answer, first
from mothloom.weights import heaviest


class Player:
    def __init__(self, hand):
        self.hand = hand

    def pick(self, table):
        return table.free()[0]

    def sees(self, hand, hole):
        pass


class Rower(Player):
    def __init__(self, hand, row):
        Player.__init__(self, hand)
        # A copy: the row stays its owner's to change.
        self.numbers = list(row)
        self.own_deeds = 0

    def pick(self, table):
        free = table.free()
        if self.own_deeds >= len(self.numbers):
            return free[0]
        return free[self.numbers[self.own_deeds] % len(free)]

    def sees(self, hand, hole):
        if hand == self.hand:
            self.own_deeds += 1


class Weigher(Player):
    def pick(self, table):
        hole = heaviest(table.rest())
        return table.free()[0] if hole is None else hole


class Follower(Player):
    def __init__(self, hand, rest, turn, paper):
        Player.__init__(self, hand)
        self.stand_at((None, rest, paper))
        if turn == hand:
            self.stand_at(first(paper, rest, hand))

    def stand_at(self, move):
        self.waiting = move[0]
        self.stand_rest = move[1]
        self.stand_paper = move[2]

    def pick(self, table):
        free = table.free()
        return self.waiting if self.waiting in free else free[0]

    def sees(self, hand, hole):
        if hand == self.hand:
            self.waiting = None
        else:
            self.stand_at(answer(self.stand_paper, self.stand_rest, self.hand, hole))


def play_out(table, weaver, moth):
    while table.winner() is None:
        hand = table.turn()
        hole = weaver.pick(table) if hand == "weaver" else moth.pick(table)
        table.take(hole)
        weaver.sees(hand, hole)
        moth.sees(hand, hole)
    return table.winner()
