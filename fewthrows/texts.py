"""Words of texts: names, and numbers as Python writes integers."""

from fewthrows.checks import is_prime

LETTERS = 'abcdefghijklmnopqrstuvwxyz'
FIGURES = '0123456789'
MOST_LETTERS = 8
MOST_FIGURES = 9


def is_made_of(text, signs):
    """Whether each sign of the text is one of signs."""
    return all([sign in signs for sign in text])


def is_name(value):
    """Whether value is a name."""
    if not isinstance(value, str) or not 1 <= len(value) <= MOST_LETTERS:
        return False
    return is_made_of(value, LETTERS)


def number_in(word):
    """The number that the word writes, not below 0; None if it writes none."""
    if not 1 <= len(word) <= MOST_FIGURES or not is_made_of(word, FIGURES):
        return None
    if word[0] == '0' and len(word) > 1:
        return None
    return int(word)


def residue_in(prime, word):
    """The residue that the word writes; None if it writes none."""
    number = number_in(word)
    if number is None or number >= prime:
        return None
    return number


def prime_in(words):
    """The prime that the words of a line prime P tell; None if they are none."""
    if len(words) != 2 or words[0] != 'prime' or not is_prime(number_in(words[1])):
        return None
    return number_in(words[1])
