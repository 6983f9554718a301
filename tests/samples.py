"""What several tests draw from: layings, loads, wrong things, and the document's words told another way."""

import decimal
import fractions
import itertools


def load_told(laying):
    """The load as [3] tells it, weight by weight."""
    far = sum(2 ** place for place, thing in enumerate(laying) if thing == 1)
    beside = sum(2 ** place for place, thing in enumerate(laying) if thing == -1)
    return far - beside


def neat_told(laying):
    """Whether it is neat as [4] tells it."""
    if laying and laying[-1] == 0:
        return False
    return not any(one != 0 and other != 0 for one, other in zip(laying, laying[1:]))


def ended_told(laying):
    used = [place for place, thing in enumerate(laying) if thing != 0]
    return list(laying[:used[-1] + 1]) if used else []


def neat_laying_told(load):
    """The neat laying from the binary signs of the load and of its threefold."""
    signs = [((3 * load) >> place & 1) - (load >> place & 1)
             for place in range(1, abs(load).bit_length() + 3)]
    return ended_told(signs)


def all_layings(longest):
    """Every laying of up to so many things."""
    for length in range(longest + 1):
        for things in itertools.product((1, 0, -1), repeat=length):
            yield list(things)


def mixed(length, seed):
    """A laying of that length without any pattern to speak of, the same each time."""
    number = seed
    things = []
    for _ in range(length):
        number = (number * 6364136223846793005 + 1442695040888963407) % 2 ** 64
        things.append((number >> 40) % 3 - 1)
    return things


def long_layings():
    found = []
    for length in (30, 63, 64, 65, 200, 399, 400):
        found += [[1] * length, [-1] * length, [0] * length, [1, -1] * (length // 2),
                  [0] * (length - 1) + [1], [0] * (length - 1) + [-1], [1] + [0] * (length - 1),
                  ([1, 0] * length)[:length], ([0, -1] * length)[:length],
                  [0] * (length // 3) + mixed(length // 3, length) + [0] * (length // 3)]
        found += [mixed(length, seed) for seed in range(4)]
    return found


def some_layings():
    return list(all_layings(5)) + long_layings()


def few_layings():
    """Unlike lengths, signs and ends, few enough for every two of them."""
    return [[], [0], [0, 0, 0], [1], [-1], [1, 1], [1, 0], [0, 1], [-1, 0, 1], [1, 0, -1], [0, -1, -1, 0],
            [1, -1, 1, -1], [1] * 9, [-1] * 9 + [0, 0], mixed(60, 1), mixed(61, 2), [0] * 399 + [1],
            [1] * 400, [-1] * 400, mixed(400, 3), mixed(400, 4)]


def loads():
    found = list(range(-300, 301))
    for exponent in (8, 16, 31, 32, 33, 52, 53, 54, 62, 63, 64, 65, 127, 128, 200, 256, 331, 332):
        for near in (-3, -2, -1, 0, 1, 2, 3):
            found += [2 ** exponent + near, -(2 ** exponent) + near]
    for exponent in (3, 9, 15, 17, 40, 77, 99, 100):
        found += [10 ** exponent, -(10 ** exponent), 10 ** exponent - 1, 1 - 10 ** exponent,
                  10 ** exponent // 3, -(10 ** exponent // 3), 10 ** exponent // 7, -(10 ** exponent // 7)]
    return found


class Hostile:
    """Lets nothing be asked of it."""

    def refuse(self, *rest):
        raise RuntimeError("hostile")

    __eq__ = __ne__ = __lt__ = __gt__ = __le__ = __ge__ = refuse
    __hash__ = __bool__ = __len__ = __iter__ = __getitem__ = __contains__ = refuse
    __repr__ = __str__ = __int__ = __index__ = __neg__ = __abs__ = refuse


class Pleaser:
    """Is like everything, and gives itself out as 1."""

    def __eq__(self, other):
        return True

    def __hash__(self):
        return 1

    def __index__(self):
        return 1

    __int__ = __neg__ = __abs__ = __index__


def no_whole_numbers():
    """Things of any kind that are no whole numbers."""
    return [True, False, None, 0.0, 1.0, -1.0, 0.5, float("nan"), float("inf"), 1 + 0j,
            fractions.Fraction(1), decimal.Decimal(1), "", "0", "1", "+", "x", b"", b"\x01", bytearray(b"\x01"),
            [], [0], [1], [[1]], (), (1,), {}, {1: 1}, set(), {1}, frozenset([1]), range(2), iter([1]),
            int, list, len, object(), Hostile(), Pleaser()]


def no_lists():
    """Things of any kind that are no lists, those that look like a laying among them."""
    return [thing for thing in no_whole_numbers() if type(thing) is not list] + [
        0, 1, -1, 2, 10 ** 5000, (1, 0, -1), (0,), "+0-", "101", b"\x00\x01", {0: 1, 1: 0}, {"load": 1},
        range(0), range(-1, 2), iter([]), (thing for thing in [1]), {0, 1}, memoryview(b"\x01\x00")]


def no_layings():
    """Things of any kind that are no layings."""
    within = [[thing] for thing in no_whole_numbers()]
    for wrong in (2, -2, 3, 255, 2 ** 32, 2 ** 64 + 1, -(2 ** 64), 10 ** 100, -(10 ** 100), 10 ** 5000,
                  True, False, None, 1.0, "1", [1], []):
        within += [[wrong], [wrong, 0, 1], [1, wrong, -1], [-1, 0, wrong], [0, 0, wrong, 0], [0] * 399 + [wrong],
                   [wrong] + [0] * 399]
    itself = []
    itself.append(itself)
    return no_lists() + within + [itself]
