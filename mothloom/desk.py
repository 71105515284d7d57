"""The desk: pages are settled, and written papers let by or not."""

from mothloom.checking import good
from mothloom.pages import page_read
from mothloom.papertexts import paper_read, paper_written
from mothloom.settling import settled


def told(text):
    table = page_read(text)
    winner = table.winner()
    if winner is not None:
        return f"won {winner}"
    settling = settled(table.rest(), table.turn())
    if settling is None:
        return "open"
    return settling[0] + " " + paper_written(settling[1])


def let_by(text, hand, written):
    table = page_read(text)
    return good(paper_read(written), table.rest(), table.turn(), hand)
