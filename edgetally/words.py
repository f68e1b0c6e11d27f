"""Words of lines and pages that are read as numbers."""

FIGURES = "0123456789"
MOST_FIGURES = 4


def number_in(word):
    """Tells the number from -9999 to 9999 that a word writes as str does, or None."""
    figures = word[1:] if word.startswith("-") else word
    if not 1 <= len(figures) <= MOST_FIGURES or any([sign not in FIGURES for sign in figures]):
        return None
    number = int(word)
    # So noughts ahead of a number, and a minus ahead of nought, make no number.
    return number if str(number) == word else None


def numbers_in(words):
    """Tells the numbers that the words write, or None where one of them is no number."""
    numbers = [number_in(word) for word in words]
    return None if None in numbers else numbers
