"""Numbers as figures."""

FIGURES = "0123456789"
PIECE = 10 ** 60
PIECE_FIGURES = 60


def are_figures(text, *, most):
    """Whether a text is one to most figures, without a nought ahead of others."""
    if not 1 <= len(text) <= most:
        return False
    if len(text) > 1 and text.startswith("0"):
        return False
    return all([sign in FIGURES for sign in text])


def figures_of(number):
    """The figures of a number from 0 on.

    It goes piece by piece, since Python refuses to show a very long number at once.
    """
    pieces = []
    while number >= PIECE:
        number, rest = divmod(number, PIECE)
        pieces.append(str(rest).zfill(PIECE_FIGURES))
    pieces.append(str(number))
    return "".join(pieces[::-1])
