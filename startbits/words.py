"""Words that texts and commands have in common."""

MOST_DIGITS = 30
DIGITS = "0123456789"
PARITY_OF_LETTER = {"n": "none", "e": "even", "o": "odd"}


def integer_in(word):
    """The integer that a word is, None if it is none."""
    digits = word[1:] if word.startswith("-") else word
    if digits == "" or len(digits) > MOST_DIGITS or not all([digit in DIGITS for digit in digits]):
        return None
    # This excludes -0, too.
    if digits[0] == "0" and word != "0":
        return None
    return int(word)


def shape_in(word):
    """The shape whose text a word is, None if it is none."""
    if len(word) != 3:
        return None
    bits, letter, stops = word[0], word[1], word[2]
    if bits not in DIGITS[1:] or letter not in PARITY_OF_LETTER or stops not in "12":
        return None
    return (int(bits), PARITY_OF_LETTER[letter], int(stops))
