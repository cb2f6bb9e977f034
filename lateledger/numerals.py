"""Numbers in texts: decimal digits without needless zeros, perhaps behind a minus."""

DIGITS = "0123456789"
MOST_DIGITS = 30


def number_in(word):
    """The INTEGER that a string tells, None if it tells none."""
    digits = word[1:] if word.startswith("-") else word
    if not 1 <= len(digits) <= MOST_DIGITS or not all([sign in DIGITS for sign in digits]):
        return None
    number = int(word)
    return number if str(number) == word else None


def count_in(word):
    """The COUNT that a string tells, None if it tells none."""
    number = number_in(word)
    return None if number is None or number < 0 else number
