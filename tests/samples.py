"""What several tests draw from: layings, loads, wrong things, and the document's words told another way."""

import decimal
import fractions
import itertools


def load_told(laying):
    """The load as [3] tells it, weight by weight."""
    far = sum(2 ** place for place, thing in enumerate(laying) if thing == 1)
    beside = sum(2 ** place for place, thing in enumerate(laying) if thing == -1)
    return far - beside


def neat_told(laying):
    """Whether it is neat as [4] tells it."""
    if laying and laying[-1] == 0:
        return False
    return not any(one != 0 and other != 0 for one, other in zip(laying, laying[1:]))


def ended_told(laying):
    used = [place for place, thing in enumerate(laying) if thing != 0]
    return list(laying[:used[-1] + 1]) if used else []


def neat_laying_told(load):
    """The neat laying from the binary signs of the load and of its threefold."""
    signs = [((3 * load) >> place & 1) - (load >> place & 1)
             for place in range(1, abs(load).bit_length() + 3)]
    return ended_told(signs)


def plan_told(load):
    """The plan as [9] tells it, thing by thing from the end of the neat laying."""
    words = {1: ["put"], 0: [], -1: ["take"]}
    plan = []
    for place, thing in enumerate(neat_laying_told(load)[::-1]):
        plan += ([] if place == 0 else ["double"]) + words[thing]
    return plan


def walked_told(plan, number):
    """What a plan comes to, put by put and take by take: each is doubled as often as doubles stand behind it."""
    total = 0
    for place, word in enumerate(plan):
        if word != "double":
            once = number if word == "put" else -number
            total += once * 2 ** plan[place:].count("double")
    return total


def moved_told(before, behind):
    return sum(one != other for one, other in itertools.zip_longest(before, behind, fillvalue=0))


def shown_told(laying):
    return "".join("0+-"[thing] for thing in laying[::-1]).lstrip("0") or "0"


def all_layings(longest):
    """Every laying of up to so many things."""
    for length in range(longest + 1):
        for things in itertools.product((1, 0, -1), repeat=length):
            yield list(things)


def all_plans(longest):
    """Every plan of up to so many words."""
    for length in range(longest + 1):
        for words in itertools.product(("double", "put", "take"), repeat=length):
            yield list(words)


def drawn(count, seed):
    """Whole numbers without any pattern to speak of, the same each time."""
    number = seed
    for _ in range(count):
        number = (number * 6364136223846793005 + 1442695040888963407) % 2 ** 64
        yield number >> 24


def mixed(length, seed):
    """A laying of that length without any pattern to speak of."""
    return [(number >> 16) % 3 - 1 for number in drawn(length, seed)]


def long_layings():
    found = []
    for length in (30, 63, 64, 65, 200, 399, 400):
        found += [[1] * length, [-1] * length, [0] * length, [1, -1] * (length // 2),
                  [0] * (length - 1) + [1], [0] * (length - 1) + [-1], [1] + [0] * (length - 1),
                  ([1, 0] * length)[:length], ([0, -1] * length)[:length],
                  [0] * (length // 3) + mixed(length // 3, length) + [0] * (length // 3)]
        found += [mixed(length, seed) for seed in range(4)]
    return found


def some_layings():
    return list(all_layings(5)) + long_layings()


def few_layings():
    """Unlike lengths, signs and ends, few enough for every two of them."""
    return [[], [0], [0, 0, 0], [1], [-1], [1, 1], [1, 0], [0, 1], [-1, 0, 1], [1, 0, -1], [0, -1, -1, 0],
            [1, -1, 1, -1], [1] * 9, [-1] * 9 + [0, 0], mixed(60, 1), mixed(61, 2), [0] * 399 + [1],
            [1] * 400, [-1] * 400, mixed(400, 3), mixed(400, 4)]


def loads():
    found = list(range(-300, 301))
    for exponent in (8, 16, 31, 32, 33, 52, 53, 54, 62, 63, 64, 65, 127, 128, 200, 256, 331, 332):
        for near in (-3, -2, -1, 0, 1, 2, 3):
            found += [2 ** exponent + near, -(2 ** exponent) + near]
    for exponent in (3, 9, 15, 17, 40, 77, 99, 100):
        found += [10 ** exponent, -(10 ** exponent), 10 ** exponent - 1, 1 - 10 ** exponent,
                  10 ** exponent // 3, -(10 ** exponent // 3), 10 ** exponent // 7, -(10 ** exponent // 7)]
    return found


def long_plans():
    found = [["double"] * 50 + ["put"], ["double"] * 999 + ["take"], ["put"] + ["double"] * 999]
    for length in (30, 64, 333, 999, 1000):
        found += [["put"] * length, ["take"] * length, ["double"] * length, ["put", "double"] * (length // 2),
                  ["take", "put"] * (length // 2), ["double", "take", "take", "double", "put"] * (length // 5)]
        found += [[("double", "put", "take")[thing] for thing in mixed(length, seed)] for seed in range(4)]
    return found


def some_plans():
    return list(all_plans(5)) + long_plans()


def numbers():
    """Numbers to walk a plan with."""
    return [1, 0, -1, 2, -2, 3, 7, -10, 255, 2 ** 64, -(2 ** 64) - 1, 10 ** 100, -(10 ** 100), 1 - 10 ** 100]


class Hostile:
    """Lets nothing be asked of it."""

    def refuse(self, *rest):
        raise RuntimeError("hostile")

    __eq__ = __ne__ = __lt__ = __gt__ = __le__ = __ge__ = refuse
    __hash__ = __bool__ = __len__ = __iter__ = __getitem__ = __contains__ = refuse
    __repr__ = __str__ = __int__ = __index__ = __neg__ = __abs__ = refuse


class Pleaser:
    """Is like everything, and gives itself out as 1."""

    def __eq__(self, other):
        return True

    def __hash__(self):
        return 1

    def __index__(self):
        return 1

    __int__ = __neg__ = __abs__ = __index__


def no_whole_numbers():
    """Things of any kind that are no whole numbers."""
    return [True, False, None, 0.0, 1.0, -1.0, 0.5, float("nan"), float("inf"), 1 + 0j,
            fractions.Fraction(1), decimal.Decimal(1), "", "0", "1", "+", "x", b"", b"\x01", bytearray(b"\x01"),
            [], [0], [1], [[1]], (), (1,), {}, {1: 1}, set(), {1}, frozenset([1]), range(2), iter([1]),
            int, list, len, object(), Hostile(), Pleaser()]


def no_lists():
    """Things of any kind that are no lists, those that look like a laying among them."""
    return [thing for thing in no_whole_numbers() if type(thing) is not list] + [
        0, 1, -1, 2, 10 ** 5000, (1, 0, -1), (0,), "+0-", "101", b"\x00\x01", {0: 1, 1: 0}, {"load": 1},
        range(0), range(-1, 2), iter([]), (thing for thing in [1]), {0, 1}, memoryview(b"\x01\x00")]


def no_layings():
    """Things of any kind that are no layings."""
    within = [[thing] for thing in no_whole_numbers()]
    for wrong in (2, -2, 3, 255, 2 ** 32, 2 ** 64 + 1, -(2 ** 64), 10 ** 100, -(10 ** 100), 10 ** 5000,
                  True, False, None, 1.0, "1", [1], []):
        within += [[wrong], [wrong, 0, 1], [1, wrong, -1], [-1, 0, wrong], [0, 0, wrong, 0], [0] * 399 + [wrong],
                   [wrong] + [0] * 399]
    itself = []
    itself.append(itself)
    return no_lists() + within + [itself]


def no_plans():
    """Things of any kind that are no plans, those that look like one among them."""
    words = ["double", "put", "take"]
    wrong = no_whole_numbers() + [0, 1, -1, 2, 10 ** 5000, b"put", ["put"], ("put",), {"put": 1}, {"put"}]
    wrong += ["Put", "PUT", "put ", " put", "put\n", "put\0", "pu", "puts", "p", "ut", "", " ", "doubl", "doubles",
              "Double", "double ", "tak", "takes", "Take", "\ttake", "putput", "put take", "put,take", "doubleput",
              "+", "0", "-", "1", "pu\u0442", "\uff50ut", "take\u200b", "dou\u0301ble", "none"]
    within = [[thing] for thing in wrong]
    for thing in ("Put", "put ", "", "x", 0, 1, True, None, ["put"], [], ("put",), 1.5, b"put", Hostile(), Pleaser()):
        within += [[thing] + words, words + [thing], ["put", thing, "take"], ["double"] * 999 + [thing],
                   [thing] + ["put"] * 999]
    itself = ["put"]
    itself.append(itself)
    return no_lists() + [tuple(words), ("put",), "put", "double", "take", "put take", b"put", dict.fromkeys(words, 1),
                         set(words), frozenset(words), iter(words), (word for word in words), itself] + within


def no_texts():
    """Things of any kind that are no texts, those that look like one among them."""
    found = [thing for thing in no_whole_numbers() + no_layings() if type(thing) is not str]
    return found + [0, 1, -1, [], [1], ["+"], ["+", "0", "-"], ("+",), ("+", "0"), b"+", b"0", b"+0-", bytearray(b"+"),
                    {"+": 1}, {"+"}, iter("+0"), (sign for sign in "+")]


def no_signs():
    """Signs of any kind that stand in no text."""
    plain = [chr(number) for number in range(256) if chr(number) not in "+0-"]
    return plain + list("\u2212\uff0b\uff0d\u207a\u207b\u2010\u2011\u2012\u2013\u2014\u2795\u2796\ufe62\ufe63"
                        "\u0660\u06f0\u0966\uff10\u2070\u2080\u24ea\u3007\u039f\u041e"
                        "\u200b\u200d\u2028\u2029\u3000\ufeff\u0301\ud800\udfff\U0001d7ce\U0001f7e2\U0010ffff")
