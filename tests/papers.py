"""Papers for the tests: who wins by trying, good by its words, and papers drawn with a written seed."""

import functools
import itertools
import random

from small import is_a_rest

from mothloom.orders import thinned
from mothloom.pairs import own_pairs
from mothloom.pieces import pieces
from mothloom.weights import moth_weighs, weaver_weighs

HANDS = ("weaver", "moth")
OTHER = {"weaver": "moth", "moth": "weaver"}


def holes(rest):
    return sorted(set(itertools.chain(*rest)))


def took(rest, hand, hole):
    """The rest behind a deed of the hand; None is no deed."""
    if hole is None:
        return rest
    if hand == "weaver":
        return tuple(sorted(tuple(other for other in strip if other != hole) for strip in rest))
    return tuple(strip for strip in rest if hole not in strip)


def below(rest, other):
    return all(any(set(under) <= set(strip) for under in other) for strip in rest)


def apart(rests):
    return all(not set(holes(one)) & set(holes(two)) for one, two in itertools.combinations(rests, 2))


@functools.lru_cache(maxsize=None)
def wins(rest, turn):
    """The hand that wins by trying all plays."""
    if () in rest:
        return "weaver"
    if not rest:
        return "moth"
    for hole in holes(rest):
        if wins(took(rest, turn, hole), OTHER[turn]) == turn:
            return turn
    return OTHER[turn]


def cases_good(rows, rest, hand):
    told = [row[0] for row in rows] == holes(rest)
    for hole, reply, paper in rows:
        told = told and good_by_words(paper, took(took(rest, OTHER[hand], hole), hand, reply), OTHER[hand], hand)
    return told


def parts_good(rows, rest):
    rests = [row[0] for row in rows]
    strips = sorted(itertools.chain(*rests))
    told = apart(rests) and set(holes(strips)) <= set(holes(rest))
    told = told and len(strips) <= len(rest) and below(rest, strips)
    return told and all(good_by_words(paper, part, "weaver", "moth") for part, paper in rows)


def either_good(one, first, two, second, rest):
    told = apart([one, two]) and below(one, rest) and below(two, rest)
    told = told and good_by_words(first, one, "weaver", "weaver")
    return told and good_by_words(second, two, "weaver", "weaver")


def good_by_words(paper, rest, turn, hand):
    """Point 18, row by row."""
    word, members = paper[0], paper[1:]
    row = (hand, turn, word)
    if row in (("moth", "moth", "bare"), ("moth", "weaver", "bare")):
        return len(rest) == 0
    if row in (("weaver", "moth", "whole"), ("weaver", "weaver", "whole")):
        return () in rest
    if word == "weight":
        return {"moth": moth_weighs, "weaver": weaver_weighs}[hand](rest, turn)
    if row == ("moth", "weaver", "pairs"):
        flat = sorted(itertools.chain(*members[0]))
        once = all(low < high for low, high in zip(flat, flat[1:]))
        return once and all(any(set(pair) <= set(strip) for pair in members[0]) for strip in rest)
    if row == ("moth", "weaver", "cases"):
        return () not in rest and cases_good(members[0], rest, hand)
    if row == ("weaver", "moth", "cases"):
        return holes(rest) != [] and cases_good(members[0], rest, hand)
    if row == ("moth", "weaver", "parts"):
        return parts_good(members[0], rest)
    if row in (("moth", "moth", "bite"), ("weaver", "weaver", "knot")):
        return good_by_words(members[1], took(rest, hand, members[0]), OTHER[hand], hand)
    if row in (("weaver", "moth", "fewer"), ("weaver", "weaver", "fewer")):
        return below(members[0], rest) and good_by_words(members[1], members[0], turn, hand)
    if row == ("weaver", "moth", "either"):
        return either_good(*members, rest)
    return False


def any_rest(chance, count, most=3):
    strips = []
    for _ in range(chance.randint(0, most)):
        strips.append(tuple(sorted(chance.sample(range(count), chance.randint(0, min(2, count))))))
    return tuple(sorted(strips))


def any_paper(chance, count, deep):
    """Some paper over the holes below the count, good or not."""
    words = ["bare", "whole", "weight", "pairs"]
    if deep > 1:
        words += ["bite", "knot", "cases", "parts", "fewer", "either"]
    word = chance.choice(words)
    reply = chance.choice([None] + list(range(count)))
    if word in ("bare", "whole", "weight"):
        return (word,)
    if word == "pairs":
        return (word, tuple(tuple(chance.choices(range(count), k=2)) for _ in range(chance.randint(0, 2))))
    if word in ("bite", "knot"):
        return (word, reply, any_paper(chance, count, deep - 1))
    if word == "cases":
        taken = sorted(chance.sample(range(count), chance.randint(0, count)))
        rows = [(hole, chance.choice([None] + taken), any_paper(chance, count, deep - 1)) for hole in taken]
        return (word, tuple(rows))
    told = [(any_rest(chance, count), any_paper(chance, count, deep - 1)) for _ in range(2)]
    if word == "parts":
        return (word, tuple(told[:chance.randint(0, 2)]))
    return (word,) + (told[0] if word == "fewer" else told[0] + told[1])


def reply_that_wins(chance, rest, hand):
    """A hole (or None) behind which the hand wins with the other one to move."""
    replies = [None] + list(range(max(holes(rest), default=0) + 2))
    return chance.choice([hole for hole in replies if wins(took(rest, hand, hole), OTHER[hand]) == hand])


def won_cases(chance, rest, hand, deep):
    rows = []
    for hole in holes(rest):
        behind = took(rest, OTHER[hand], hole)
        reply = reply_that_wins(chance, behind, hand)
        rows.append((hole, reply, won_paper(chance, took(behind, hand, reply), OTHER[hand], hand, deep - 1)))
    return ("cases", tuple(rows))


def won_parts(chance, rest, deep):
    """Parts of the pieces of a rest above it, where the moth wins each; or None."""
    strips = [list(strip) for strip in chance.choice((rest, thinned(rest)))]
    for strip in strips:
        if len(strip) > 2 and chance.random() < 0.3:
            strip.remove(chance.choice(strip))
    parts = pieces(tuple(sorted(tuple(strip) for strip in strips)))
    if any(wins(part, "weaver") == "weaver" for part in parts):
        return None
    chance.shuffle(parts)
    return ("parts", tuple((part, won_paper(chance, part, "weaver", "moth", deep - 1)) for part in parts))


def rest_below(chance, rest, count):
    """A rest below it: of some strips, some of them longer, some twice."""
    strips = []
    for strip in rest:
        for _ in range(chance.choice((0, 1, 1, 1, 2))):
            more = chance.sample(range(count), 1) if chance.random() < 0.2 else []
            strips.append(tuple(sorted(set(strip) | set(more))))
    return tuple(sorted(strips))


def won_fewer(chance, rest, turn, deep):
    under = rest_below(chance, rest, 5)
    if len(under) > 6 or wins(under, turn) == "moth":
        return None
    return ("fewer", under, won_paper(chance, under, turn, "weaver", deep - 1))


def won_either(chance, rest, deep):
    for _ in range(6):
        side = {hole for hole in holes(rest) if chance.random() < 0.5}
        one = rest_below(chance, tuple(strip for strip in rest if set(strip) <= side), 5)
        two = rest_below(chance, tuple(strip for strip in rest if not set(strip) & side), 5)
        if len(one + two) <= 8 and apart([one, two]) and wins(one, "weaver") == wins(two, "weaver") == "weaver":
            first = won_paper(chance, one, "weaver", "weaver", deep - 1)
            return ("either", one, first, two, won_paper(chance, two, "weaver", "weaver", deep - 1))
    return None


def short_paper(rest, turn, hand):
    """Papers without papers that are good here."""
    told = []
    if not rest:
        told.append(("bare",))
    if () in rest:
        told.append(("whole",))
    if {"moth": moth_weighs, "weaver": weaver_weighs}[hand](rest, turn):
        told.append(("weight",))
    word, pairs = own_pairs(rest)
    if (hand, turn, word) == ("moth", "weaver", "pairs"):
        told.append(("pairs", tuple(pairs)))
    return told


def long_paper(chance, rest, turn, hand, deep):
    if turn == hand:
        reply = reply_that_wins(chance, rest, hand)
        word = "bite" if hand == "moth" else "knot"
        told = [(word, reply, won_paper(chance, took(rest, hand, reply), OTHER[hand], hand, deep - 1))]
    elif hand == "weaver" and not holes(rest):
        told = []
    else:
        told = [won_cases(chance, rest, hand, deep)]
    if (hand, turn) == ("moth", "weaver"):
        told.append(won_parts(chance, rest, deep))
    if hand == "weaver":
        told.append(won_fewer(chance, rest, turn, deep))
        told.append(won_either(chance, rest, deep) if turn == "moth" else None)
    return [paper for paper in told if paper is not None]


def won_paper(chance, rest, turn, hand, deep):
    """A paper that is good for a rest and a turn that the hand wins, of words drawn at random."""
    short = short_paper(rest, turn, hand)
    if short and (deep < 1 or chance.random() < 0.4):
        return chance.choice(short)
    long = long_paper(chance, rest, turn, hand, deep)
    return chance.choice(long or short)


def won_papers(seed, count, most_holes=4, most_strips=5, deep=2):
    """That many tuples (paper, rest, turn, hand), each good."""
    chance = random.Random(seed)
    while count:
        kinds = chance.choice(((1, 2, 2), (2, 2, 3), (1, 2, 3)))
        sizes = [chance.choice(kinds) for _ in range(chance.randint(0, most_strips))]
        strips = [tuple(sorted(chance.sample(range(most_holes), min(size, most_holes)))) for size in sizes]
        rest = tuple(sorted(strips))
        for turn in HANDS:
            if count:
                hand = wins(rest, turn)
                count -= 1
                yield won_paper(chance, rest, turn, hand, deep), rest, turn, hand


def papers_within(paper):
    """The papers that stand in a paper, one step in."""
    if paper[0] in ("bite", "knot", "fewer", "either"):
        return [member for place, member in enumerate(paper) if place in (2, 4)]
    return [row[-1] for row in paper[1]] if paper[0] in ("cases", "parts") else []


def words_in(paper):
    """The words of a paper and of the papers in it."""
    told = [paper[0]]
    for other in papers_within(paper):
        told.extend(words_in(other))
    return told


def deep_of(paper):
    return 1 + max((deep_of(other) for other in papers_within(paper)), default=0)


def papers_in(paper):
    return 1 + sum(papers_in(other) for other in papers_within(paper))


def is_a_hole(thing):
    return type(thing) is int and 0 <= thing < 60


def is_a_reply(thing):
    return thing is None or is_a_hole(thing)


def is_a_row_of(things, *kinds):
    """A tuple of at most sixty tuples, their members of those kinds in turn."""
    if type(things) is not tuple or len(things) > 60:
        return False
    return all(is_made_of(thing, *kinds) for thing in things)


def is_made_of(thing, *kinds):
    if type(thing) is not tuple or len(thing) != len(kinds):
        return False
    return all(kind(member) for kind, member in zip(kinds, thing))


def is_a_paper(thing):
    """Whether it is a paper as point 17 tells, kinds and rows and all."""
    if type(thing) is not tuple or not thing:
        return False
    word, members = thing[0], thing[1:]
    if word in ("bare", "whole", "weight"):
        return members == ()
    if word == "pairs":
        return len(members) == 1 and is_a_row_of(members[0], is_a_hole, is_a_hole)
    if word in ("bite", "knot"):
        return is_made_of(members, is_a_reply, is_a_paper)
    if word == "cases":
        return len(members) == 1 and is_a_row_of(members[0], is_a_hole, is_a_reply, is_a_paper)
    if word == "parts":
        return len(members) == 1 and is_a_row_of(members[0], is_a_rest, is_a_paper)
    if word == "fewer":
        return is_made_of(members, is_a_rest, is_a_paper)
    return word == "either" and is_made_of(members, is_a_rest, is_a_paper, is_a_rest, is_a_paper)


def keeps_the_bounds(paper):
    """Whether it is a paper of point 17, at most thirty deep and four thousand in all."""
    return is_a_paper(paper) and deep_of(paper) <= 30 and papers_in(paper) <= 4000
