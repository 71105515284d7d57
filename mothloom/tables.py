"""Tables: a loom is played on, deed by deed, and deeds are taken back."""

from mothloom.deeds import behind, other_hand
from mothloom.errors import NoDeed, NoHole, Over, Taken
from mothloom.rests import is_bare, is_number_below, is_whole


class Table:
    def __init__(self, loom, first="weaver"):
        self.hole_count = loom[0]
        self.ribbons = loom[1]
        self.opener = first
        self.taken = []

    def hand_at(self, place):
        return self.opener if place % 2 == 0 else other_hand(self.opener)

    def holes_taken_by(self, hand):
        return sorted([hole for place, hole in enumerate(self.taken) if self.hand_at(place) == hand])

    def turn(self):
        return self.hand_at(len(self.taken))

    def deeds(self):
        return list(self.taken)

    def knots(self):
        return self.holes_taken_by("weaver")

    def bites(self):
        return self.holes_taken_by("moth")

    def free(self):
        return [hole for hole in range(self.hole_count) if hole not in self.taken]

    def rest(self):
        left = self.ribbons
        for place, hole in enumerate(self.taken):
            left = behind(left, self.hand_at(place), hole)
        return left

    def winner(self):
        left = self.rest()
        if is_whole(left):
            return "weaver"
        if is_bare(left):
            return "moth"
        return None

    def take(self, hole):
        if self.winner() is not None:
            raise Over("somebody has won")
        if not is_number_below(hole, self.hole_count):
            raise NoHole("the loom has no such hole")
        if hole in self.taken:
            raise Taken("the hole is not free")
        self.taken.append(hole)
        return self.winner()

    def back(self):
        if len(self.taken) == 0:
            raise NoDeed("there is no deed to take back")
        return self.taken.pop()
