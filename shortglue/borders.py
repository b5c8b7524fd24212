"""Borders of a text: beginnings that are its ends as well."""


def borders(text):
    """The greatest border, or 0, of each beginning, from the one of one sign on."""
    if text == "":
        return ()
    greatest = [0]
    for sign in text[1:]:
        # A border less its last sign is a border of the beginning before,
        # so these alone, falling, can be one sign longer here.
        k = greatest[-1]
        while k > 0 and text[k] != sign:
            k = greatest[k - 1]
        greatest.append(k + 1 if text[k] == sign else 0)
    return tuple(greatest)


def all_borders(text):
    """All borders of the whole text, falling."""
    if text == "":
        return ()
    greatest = borders(text)
    falling = []
    k = greatest[-1]
    while k > 0:
        falling.append(k)
        # The next border is the greatest one of the border itself.
        k = greatest[k - 1]
    return tuple(falling)


def period(text):
    """The text's length less its greatest border; 0 of the empty text."""
    if text == "":
        return 0
    return len(text) - borders(text)[-1]
