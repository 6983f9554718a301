"""Sums of layings, and layings made neat, turned about, weighed against each other and parted."""

from fewstones.layings import check_laying, ended, laid, load_of


def neat(laying):
    return laid(load_of(laying))


def turned(laying):
    check_laying(laying)
    return [-thing for thing in laying]


def plus(one, other):
    return laid(load_of(one) + load_of(other))


def heavier(one, other):
    more = load_of(one) - load_of(other)
    if more > 0:
        return 1
    if more < 0:
        return -1
    return 0


def parted(laying, place):
    # Ahead of the slices: what is no list may have none, or may give a laying by them.
    check_laying(laying)
    return (ended(laying[place:]), ended(laying[:place]))
