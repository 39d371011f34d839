"""How places, rules, letters and whats of logs are written, and read back."""

from leanfar.errors import NoText
from leanfar.figures import figures_of, number_in
from leanfar.letters import is_letter
from leanfar.logs import is_what
from leanfar.worlds import is_place, is_rule


def place_words(place):
    """How what is known to be a place is written."""
    return ".".join(place)


def letter_words(letter):
    """The words of what is known to be a letter."""
    return [*letter[:2], figures_of(letter[2])] if letter[0] == "holds" else list(letter)


def show_place(place):
    """How a place is written."""
    if not is_place(place):
        raise NoText("this is no place")
    return place_words(place)


def show_rule(rule):
    """How a rule is written."""
    if not is_rule(rule):
        raise NoText("this is no rule")
    premises = [place_words(premise) for premise in rule[3]]
    return " ".join([place_words(rule[:2]), "=", figures_of(rule[2]), *premises])


def show_letter(letter):
    """How a letter is written."""
    if not is_letter(letter):
        raise NoText("this is no letter")
    return " ".join(letter_words(letter))


def show_what(what):
    """How a what of a log is written."""
    if not is_what(what):
        raise NoText("this is no what of a log")
    if what[0] == "hear":
        return " ".join([*what[:2], *letter_words(what[2])])
    if what[0] == "lean":
        premises = [place_words(premise) for premise in what[3]]
        return " ".join([*what[:2], figures_of(what[2]), *premises])
    if what[0] == "drop":
        return " ".join(["drop", figures_of(what[1])])
    return " ".join(what)


def words_of(text):
    """The words of a text, which single blanks part."""
    if type(text) != str:
        raise NoText("this is no text")
    return text.split(" ")


# What words may write is put together first, and then judged as a whole.


def place_in(word):
    """What a word may write as a place: a tuple of its parts."""
    return tuple(word.split("."))


def letter_in(words):
    """What words may write as a letter."""
    return (*words[:2], number_in(words[2])) if len(words) == 3 else tuple(words)


def rule_in(words):
    """The rule that words write, None where they write none."""
    if len(words) < 4 or words[1] != "=":
        return None
    rule = (*place_in(words[0]), number_in(words[2]), [place_in(word) for word in words[3:]])
    return rule if is_rule(rule) else None


def what_in(words):
    """What words may write as a what of a log."""
    if words[0] == "hear":
        return (*words[:2], letter_in(words[2:]))
    if words[0] == "lean" and len(words) > 2:
        return (*words[:2], number_in(words[2]), [place_in(word) for word in words[3:]])
    if words[0] == "drop" and len(words) == 2:
        return "drop", number_in(words[1])
    return tuple(words)


def read_place(text):
    """The place that a text writes."""
    if type(text) != str:
        raise NoText("this is no text")
    place = place_in(text)
    if not is_place(place):
        raise NoText("this writes no place")
    return place


def read_rule(text):
    """The rule that a text writes."""
    rule = rule_in(words_of(text))
    if rule is None:
        raise NoText("this writes no rule")
    return rule


def read_letter(text):
    """The letter that a text writes."""
    letter = letter_in(words_of(text))
    if not is_letter(letter):
        raise NoText("this writes no letter")
    return letter


def read_what(text):
    """The what of a log that a text writes."""
    what = what_in(words_of(text))
    if not is_what(what):
        raise NoText("this writes no what of a log")
    return what
