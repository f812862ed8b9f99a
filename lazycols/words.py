"""How numbers are written: a word of figures, perhaps with a - ahead."""

FIGURES = "0123456789"
MOST_FIGURES = 60


# Figure by figure: int would read blanks, a + and figures of other scripts too.
def writes_number(word):
    figures = word[1:] if word.startswith("-") else word
    if not 1 <= len(figures) <= MOST_FIGURES or not all([sign in FIGURES for sign in figures]):
        return False
    return word == "0" or figures[0] != "0"
