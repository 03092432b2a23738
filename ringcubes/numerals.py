"""Numbers in texts: without zeros ahead, those below 0 with their sign."""

DIGITS = "0123456789"


def number_told(word):
    """The number from -99 to 99 that a word tells; None if it tells none."""
    digits = word[1:] if word.startswith("-") else word
    if not 1 <= len(digits) <= 2 or not all([digit in DIGITS for digit in digits]):
        return None
    number = int(word)
    return number if str(number) == word else None


def numbers_told(words):
    """The list of the numbers that words tell; None if one of them tells none."""
    told = [number_told(word) for word in words]
    return None if None in told else told


def numbers_text(numbers):
    """The words of numbers, one space between."""
    return " ".join([str(number) for number in numbers])
