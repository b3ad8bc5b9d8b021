"""Numbers written in figures."""

FIGURES = "0123456789"


def number_in(text, most):
    """Tell the number of one figure to so many that the text is, or None where it is none."""
    # The figures are counted first, for very long texts are too much for int.
    if 1 <= len(text) <= most and all([sign in FIGURES for sign in text]):
        return int(text)
    return None
