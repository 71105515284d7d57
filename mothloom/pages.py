"""Pages: the play at a table as rows of words, written and read."""

from mothloom.errors import LoomError, NoPage
from mothloom.figures import number_read
from mothloom.looms import loom_made
from mothloom.tables import Table


def row_written(word, members):
    return " ".join([word] + [str(member) for member in members])


def page_written(table):
    rows = [row_written("holes", [table.hole_count])]
    rows.extend([row_written("ribbon", ribbon) for ribbon in table.ribbons])
    rows.append(row_written("first", [table.opener]))
    rows.extend([row_written("take", [hole]) for hole in table.deeds()])
    return "\n".join(rows)


def numbers_behind(word, row):
    if row[0] != word:
        raise NoPage("a row of another word is due")
    numbers = [number_read(other) for other in row[1:]]
    if None in numbers:
        raise NoPage("a number is due")
    return numbers


def number_behind(word, row):
    numbers = numbers_behind(word, row)
    if len(numbers) != 1:
        raise NoPage("just one number is due")
    return numbers[0]


def is_opener(row):
    return row == ["first", "weaver"] or row == ["first", "moth"]


def opener_place(rows):
    for place, row in enumerate(rows):
        if is_opener(row):
            return place
    raise NoPage("no row tells who is first")


def table_played(loom, opener, deeds):
    table = Table(loom, opener)
    for hole in deeds:
        table.take(hole)
    return table


def page_read(text):
    rows = [row.split(" ") for row in text.split("\n")]
    place = opener_place(rows)
    count = number_behind("holes", rows[0])
    ribbons = [numbers_behind("ribbon", row) for row in rows[1:place]]
    deeds = [number_behind("take", row) for row in rows[place + 1:]]
    try:
        return table_played(loom_made(count, ribbons), rows[place][1], deeds)
    except LoomError as refusal:
        raise NoPage("the page's loom or one of its deeds is refused") from refusal
