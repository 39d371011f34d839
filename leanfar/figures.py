"""Whole numbers from 0 on as they are written, in however many figures."""

# Python itself writes and reads no more than so many thousands of figures at once.
AT_ONCE = 64
GREAT = 10 ** 64


def figures_of(number):
    """How a whole number from 0 on is written."""
    behind = []
    while number >= GREAT:
        number, part = divmod(number, GREAT)
        behind.append(str(part).zfill(AT_ONCE))
    return "".join([str(number)] + behind[::-1])


def number_in(word):
    """The whole number that a word writes, None where it writes none."""
    if not word.isascii() or not word.isdigit() or (word.startswith("0") and word != "0"):
        return None
    number = 0
    for at in range(0, len(word), AT_ONCE):
        part = word[at:at + AT_ONCE]
        number = number * 10 ** (len(part) % 65) + int(part)
    return number
