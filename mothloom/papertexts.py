"""Papers as words, written and read."""

from mothloom.errors import NoPaper
from mothloom.figures import number_read
from mothloom.rests import HOLE_COUNT, is_number_below, members_of, rest_made

MOST_COUNT = 60
MOST_DEEP = 30

# What stands behind each word. A tuple among it stands for a count and that many rows of such members.
MEMBERS = {
    "bare": (),
    "whole": (),
    "weight": (),
    "pairs": (("hole", "hole"),),
    "bite": ("reply", "paper"),
    "knot": ("reply", "paper"),
    "cases": (("hole", "reply", "paper"),),
    "parts": (("rest", "paper"),),
    "fewer": ("rest", "paper"),
    "either": ("rest", "paper", "rest", "paper"),
}


class Words:
    def __init__(self, text):
        self.words = text.split(" ")
        self.place = 0

    def are_left(self):
        return self.place < len(self.words)

    def next_word(self):
        if not self.are_left():
            raise NoPaper("a word is missing")
        self.place += 1
        return self.words[self.place - 1]


def counted(rows):
    return [str(len(rows))] + members_of(rows)


def strip_words(strip):
    return counted([[str(hole)] for hole in strip])


def member_words(member, kind):
    if kind == "hole" or kind == "reply":
        return ["-" if member is None else str(member)]
    if kind == "rest":
        return counted([strip_words(strip) for strip in member])
    if kind == "paper":
        return paper_words(member)
    return counted([members_words(row, kind) for row in member])


def members_words(members, kinds):
    return members_of([member_words(member, kind) for member, kind in zip(members, kinds)])


def paper_words(paper):
    return [paper[0]] + members_words(paper[1:], MEMBERS[paper[0]])


def paper_written(paper):
    return " ".join(paper_words(paper))


def number_below(word, bound):
    number = number_read(word)
    if not is_number_below(number, bound):
        raise NoPaper("a number is missing or too great")
    return number


def hole_from(words):
    return number_below(words.next_word(), HOLE_COUNT)


def reply_from(words):
    word = words.next_word()
    return None if word == "-" else number_below(word, HOLE_COUNT)


def count_from(words):
    return number_below(words.next_word(), MOST_COUNT + 1)


def strip_from(words):
    return tuple([hole_from(words) for place in range(count_from(words))])


def rest_from(words):
    rest = tuple([strip_from(words) for place in range(count_from(words))])
    if rest_made(rest) != rest:
        raise NoPaper("a strip or a rest is out of order")
    return rest


def member_from(words, kind, room):
    if kind == "hole":
        return hole_from(words)
    if kind == "reply":
        return reply_from(words)
    if kind == "rest":
        return rest_from(words)
    if kind == "paper":
        return paper_from(words, room)
    return tuple([members_from(words, kind, room) for place in range(count_from(words))])


def members_from(words, kinds, room):
    return tuple([member_from(words, kind, room) for kind in kinds])


def paper_from(words, room):
    # The room is how many papers may still stand within one another.
    if room == 0:
        raise NoPaper("too many papers stand within one another")
    word = words.next_word()
    if word not in MEMBERS:
        raise NoPaper("no paper begins so")
    return (word,) + members_from(words, MEMBERS[word], room - 1)


def paper_read(text):
    words = Words(text)
    paper = paper_from(words, MOST_DEEP)
    if words.are_left():
        raise NoPaper("words are left over")
    return paper
