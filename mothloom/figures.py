"""Numbers as pages and papers write them: by one or two figures."""

FIGURES = "0123456789"


def number_read(word):
    # Sign by sign: isdigit and int take the figures of other scripts, too.
    if len(word) not in (1, 2) or not all([sign in FIGURES for sign in word]):
        return None
    if len(word) == 2 and word[0] == "0":
        return None
    return int(word)
