"""Layings: where each stone lies, the load of that, and the neat laying of a load."""

from fewstones.errors import NoLaying, NoLoad


def is_whole(thing):
    # Python counts True and False among the ints; here they are no whole numbers.
    return isinstance(thing, int) and not isinstance(thing, bool)


def is_laying(thing):
    if not isinstance(thing, list):
        return False
    return all([is_whole(piece) and -1 <= piece <= 1 for piece in thing])


def check_laying(thing):
    # The words don't show the thing: it may be of any kind, and showing it could fail.
    if not is_laying(thing):
        raise NoLaying("a laying is a list of whole numbers, each of them 1, 0 or -1")


def check_load(thing):
    if not is_whole(thing):
        raise NoLoad("a load is a whole number")


def load_of(laying):
    check_laying(laying)
    load = 0
    for thing in reversed(laying):
        load = 2 * load + thing
    return load


def stones(laying):
    check_laying(laying)
    return len([thing for thing in laying if thing != 0])


def ended(laying):
    check_laying(laying)
    length = len(laying)
    while length > 0 and laying[length - 1] == 0:
        length = length - 1
    return laying[:length]


def is_neat(laying):
    if laying != ended(laying):
        return False
    for place in range(len(laying) - 1):
        if laying[place] != 0 and laying[place + 1] != 0:
            return False
    return True


def lowest_thing(load):
    if load % 2 == 0:
        return 0
    # Of 1 and -1 this is the one whose rest 4 divides, so the next stone stays unused.
    return 2 - load % 4


def laid(load):
    check_load(load)
    laying = []
    rest = load
    while rest != 0:
        thing = lowest_thing(rest)
        laying.append(thing)
        rest = (rest - thing) // 2
    return laying
