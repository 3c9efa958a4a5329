"""Numbers and catalogues from their texts."""

from splitstock.errors import InvalidCatalogue, InvalidText
from splitstock.tables import checked_weights, is_name
from splitstock.texts import NO_NUMBERS

DIGITS = "0123456789"
MOST_DIGITS = 60


def read_numbers(text):
    """The dict of numbers that has this text."""
    numbers = {}
    if text == NO_NUMBERS:
        return numbers
    last = ""
    for word in text.split(" "):
        name, _, digits = word.partition(":")
        # Each name comes behind the one before, so none comes twice.
        if not is_name(name) or name <= last or not is_positive(digits):
            raise InvalidText(text)
        numbers[name] = int(digits)
        last = name
    return numbers


def read_catalogue(text):
    """The valid catalogue that has this text."""
    catalogue = []
    for entry in text.split(", "):
        words = entry.split(" ")
        if len(words) < 2 or not is_positive(words[1]):
            raise InvalidText(text)
        catalogue.append((words[0], int(words[1]), words[2:]))
    try:
        checked_weights(catalogue)
    except InvalidCatalogue:
        raise InvalidText(text) from None
    return catalogue


def is_positive(word):
    """Whether this is a number above 0 as the texts have it."""
    # Longer words are never converted: Python refuses very long ones.
    if not 1 <= len(word) <= MOST_DIGITS or word[0] == "0":
        return False
    return all([digit in DIGITS for digit in word])
