"""Letters that hands tell one another, what they are."""

from leanfar.worlds import is_name, is_whole


def is_letter(thing):
    """Whether it is ("holds", saying, height), ("open", saying) or ("heard", saying)."""
    if type(thing) != tuple or len(thing) < 2 or type(thing[0]) != str or not is_name(thing[1]):
        return False
    if thing[0] == "holds":
        return len(thing) == 3 and is_whole(thing[2]) and thing[2] >= 0
    return len(thing) == 2 and thing[0] in ("open", "heard")
