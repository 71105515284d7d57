"""Plays for the tests: tables in mid-play drawn with a written seed, and every line of play against a player."""

import copy

from papers import HANDS

from mothloom.looms import loom_made
from mothloom.players import Player, Rower, Weigher
from mothloom.tables import Table


def told_of(table):
    """All that a table tells."""
    return (table.turn(), table.deeds(), table.knots(), table.bites(), table.free(), table.rest(), table.winner())


def any_table(chance, count, most_ribbons, sizes=(1, 2, 2, 3)):
    """A table on which nobody has won, some deeds in."""
    while True:
        ribbons = []
        for _ in range(chance.randint(1, most_ribbons)):
            ribbons.append(chance.sample(range(count), min(count, chance.choice(sizes))))
        table = Table(loom_made(count, ribbons), chance.choice(HANDS))
        for _ in range(chance.choice((0, 0, 1, 2, 3))):
            if table.winner() is None:
                table.take(chance.choice(table.free()))
        if table.winner() is None:
            return table


def lines(table, hand, player):
    """The table at each end of the play: the player's hand takes what it tells, the other one whatever is free."""
    if table.winner() is not None:
        yield table
        return
    turn = table.turn()
    for hole in [player.pick(table)] if turn == hand else table.free():
        told = copy.deepcopy(player)
        table.take(hole)
        told.sees(turn, hole)
        yield from lines(table, hand, told)
        table.back()


def others(chance, hand):
    """Players of the hand that go by no paper."""
    rows = [[chance.randint(-99, 99) for _ in range(chance.randint(0, 9))] for _ in range(3)]
    return [Player(hand), Weigher(hand)] + [Rower(hand, row) for row in rows]


def knots_from(table, begun):
    """How many own knots the weaver made behind that many deeds."""
    knots = set(table.knots())
    return len([hole for hole in table.deeds()[begun:] if hole in knots])
