"""The words of DOC.md for texts and rows of the desk (26 to 28), written down plainly, to hold the program against."""

import re

NAME = "[a-z]{1,8}"
PLACE = rf"{NAME}\.{NAME}"
NUMBER = "(?:0|[1-9][0-9]*)"
COST = "[1-9][0-9]*"
PREMISES = rf"{PLACE}(?: {PLACE}){{0,7}}"
LETTER = rf"(?:holds {NAME} {NUMBER}|(?:open|heard) {NAME})"

FORMS = {
    "place": PLACE,
    "rule": rf"{PLACE} = {COST} {PREMISES}",
    "letter": LETTER,
    "what": (
        rf"(?:(?:vouch|withdraw|join|part) {NAME}|lean {NAME} {COST} {PREMISES}|drop {NUMBER}|hear {NAME} {LETTER})"
    ),
    "row": (
        rf"(?:come {NAME}|(?:join|part|vouch|withdraw|step|height|reason|why|whynot|blame) {NAME} {NAME}"
        rf"|drop {NAME} {NUMBER}|rest|hands|roads|open|lie|all|{PLACE} = {COST} {PREMISES})"
    ),
}


def is_text(form, text):
    """Whether it is a text of this form."""
    if type(text) is not str or re.fullmatch(FORMS[form], text) is None:
        return False
    premises = [word for word in text.split(" ")[1:] if "." in word]
    return len(set(premises)) == len(premises)


def number(word):
    """What a number's figures come to, added up one by one: by as many as Python reads at once."""
    found = 0
    while word:
        found = found * 10**len(word[:500]) + int(word[:500])
        word = word[500:]
    return found


def place(word):
    hand, saying = word.split(".")
    return (hand, saying)


def read(form, text):
    """What a text of this form writes."""
    words = text.split(" ")
    if form == "place":
        return place(text)
    if form == "rule":
        return (*place(words[0]), number(words[2]), [place(word) for word in words[3:]])
    if form == "letter":
        return tuple(words[:2]) + tuple(number(word) for word in words[2:])
    if words[0] == "lean":
        return ("lean", words[1], number(words[2]), [place(word) for word in words[3:]])
    if words[0] == "hear":
        return ("hear", words[1], read("letter", text.split(" ", 2)[2]))
    return ("drop", number(words[1])) if words[0] == "drop" else tuple(words)
