"""Texts: layings shown with the signs +, 0 and -, the greatest weight first, and read again."""

from fewstones.errors import NoText
from fewstones.layings import ended

SIGNS = {1: "+", 0: "0", -1: "-"}
THINGS = {"+": 1, "0": 0, "-": -1}


def is_readable(thing):
    if not isinstance(thing, str) or thing == "":
        return False
    if len(thing) > 1 and thing[0] == "0":
        return False
    return all([sign in THINGS for sign in thing])


def shown(laying):
    used = ended(laying)
    if used == []:
        return "0"
    return "".join([SIGNS[thing] for thing in reversed(used)])


def read(text):
    if not is_readable(text):
        raise NoText("a text has the signs +, 0 and -, at least one, and begins with 0 only where that is all")
    if text == "0":
        return []
    return [THINGS[sign] for sign in reversed(text)]
