"""What is handed in, what is told, what is refused, and what lies beyond a bound: [1], [2], the interface."""

import copy
import inspect
import unittest

from fewstones import layings, sums
from fewstones.errors import NoLaying
from tests.samples import few_layings, mixed, no_layings

ASKED_OF_ONE = {
    "load_of": layings.load_of,
    "stones": layings.stones,
    "ended": layings.ended,
    "is_neat": layings.is_neat,
    "neat": sums.neat,
    "turned": sums.turned,
    "plus, first": lambda laying: sums.plus(laying, [1, 0, -1]),
    "plus, second": lambda laying: sums.plus([1, 0, -1], laying),
    "plus, first, with []": lambda laying: sums.plus(laying, []),
    "plus, second, with []": lambda laying: sums.plus([], laying),
    "plus, both": lambda laying: sums.plus(laying, laying),
    "heavier, first": lambda laying: sums.heavier(laying, [1, 0, -1]),
    "heavier, second": lambda laying: sums.heavier([1, 0, -1], laying),
    "heavier, first, with []": lambda laying: sums.heavier(laying, []),
    "heavier, second, with []": lambda laying: sums.heavier([], laying),
    "heavier, both": lambda laying: sums.heavier(laying, laying),
    "parted, 0": lambda laying: sums.parted(laying, 0),
    "parted, 1": lambda laying: sums.parted(laying, 1),
    "parted, 2": lambda laying: sums.parted(laying, 2),
    "parted, 400": lambda laying: sums.parted(laying, 400),
}

LISTS_TOLD = {
    "ended": layings.ended,
    "laid": lambda laying: layings.laid(layings.load_of(laying)),
    "neat": sums.neat,
    "turned": sums.turned,
    "plus []": lambda laying: sums.plus(laying, []),
    "[] plus": lambda laying: sums.plus([], laying),
    "plus itself": lambda laying: sums.plus(laying, laying),
    "upper part": lambda laying: sums.parted(laying, 0)[0],
    "lower part": lambda laying: sums.parted(laying, 400)[1],
    "empty upper part": lambda laying: sums.parted(laying, 400)[0],
    "empty lower part": lambda laying: sums.parted(laying, 0)[1],
    "upper part within": lambda laying: sums.parted(laying, 2)[0],
    "lower part within": lambda laying: sums.parted(laying, 2)[1],
}


def asked():
    return list(ASKED_OF_ONE.items()) + [("is_laying", layings.is_laying), ("laid", LISTS_TOLD["laid"])]


class WrongInputs(unittest.TestCase):
    def test_no_laying_is_refused_at_each_argument(self):
        for name, ask in ASKED_OF_ONE.items():
            # Made anew for each, as some of these things are used up by a walk.
            for place, thing in enumerate(no_layings()):
                with self.subTest(asked=name, place=place, kind=type(thing).__name__):
                    with self.assertRaises(NoLaying):
                        ask(thing)

    def test_a_refusal_leaves_what_was_handed_in(self):
        for name, ask in ASKED_OF_ONE.items():
            for wrong in ([1, 0, 2, 0], [0, True, 0], ["+", 0, 0], [1, [0, 1], 0], [None, 0]):
                handed_in = copy.deepcopy(wrong)
                with self.subTest(asked=name, wrong=wrong):
                    with self.assertRaises(NoLaying):
                        ask(handed_in)
                    self.assertEqual(repr(handed_in), repr(wrong))

    def test_a_refusal_leaves_the_other_laying(self):
        for ask in (sums.plus, sums.heavier):
            good = [1, 1, 0]
            with self.assertRaises(NoLaying):
                ask(good, [2])
            with self.assertRaises(NoLaying):
                ask([2], good)
            self.assertEqual(good, [1, 1, 0])

    def test_a_refusal_changes_nothing_told_later(self):
        for name, ask in ASKED_OF_ONE.items():
            ahead = ask([1, 1, 0, -1, 0])
            with self.subTest(asked=name):
                with self.assertRaises(NoLaying):
                    ask([1, 1, 0, -1, 2])
                self.assertEqual(ask([1, 1, 0, -1, 0]), ahead)


class HandedIn(unittest.TestCase):
    def test_stays_as_it_was(self):
        for name, ask in asked():
            for laying in few_layings():
                handed_in = list(laying)
                ask(handed_in)
                self.assertEqual(handed_in, laying, name)

    def test_both_stay_as_they_were(self):
        for ask in (sums.plus, sums.heavier):
            for one in few_layings():
                for other in few_layings():
                    first, second = list(one), list(other)
                    ask(first, second)
                    self.assertEqual((first, second), (one, other))

    def test_changed_behind_a_call_it_is_told_anew(self):
        for name, ask in asked():
            laying = [1, 0, -1, 0]
            ask(laying)
            for changed in ([0, 1, -1, 1], [1, 1], [], [-1, 0, 1, 0, 0], [0, 0, 0]):
                laying[:] = changed
                with self.subTest(asked=name, changed=changed):
                    self.assertEqual(ask(laying), ask(list(changed)))

    def test_changed_into_no_laying_it_is_refused(self):
        for name, ask in ASKED_OF_ONE.items():
            laying = [1, 0, -1, 0]
            ask(laying)
            laying[1] = True
            with self.subTest(asked=name):
                with self.assertRaises(NoLaying):
                    ask(laying)
                self.assertIs(layings.is_laying(laying), False)


class Told(unittest.TestCase):
    def test_a_list_of_its_own(self):
        for name, ask in LISTS_TOLD.items():
            for laying in few_layings():
                with self.subTest(asked=name, laying=laying):
                    told = ask(laying)
                    self.assertIs(type(told), list)
                    self.assertTrue(all(type(thing) is int for thing in told))
                    self.assertIsNot(told, laying)
                    self.assertIsNot(told, ask(laying))

    def test_changed_by_the_asker_it_changes_nothing(self):
        for name, ask in LISTS_TOLD.items():
            for laying in few_layings():
                with self.subTest(asked=name, laying=laying):
                    handed_in = list(laying)
                    told = ask(handed_in)
                    as_told = list(told)
                    told.append(1)
                    told[0] = 7
                    self.assertEqual(handed_in, laying)
                    self.assertEqual(ask(handed_in), as_told)
                    self.assertEqual(ask(list(laying)), as_told)

    def test_nothing_asked_later_changes_it(self):
        for name, ask in LISTS_TOLD.items():
            laying = [1, 1, 0, -1, 0]
            told = ask(laying)
            as_told = list(told)
            laying[0] = 0
            laying.append(1)
            for other in few_layings() + [laying]:
                ask(other)
            self.assertEqual(told, as_told, name)

    def test_the_two_parts_are_two_lists(self):
        for laying in ([], [0, 0], [1], [1, 0, 1]):
            for place in (0, 1, 2, 400):
                upper, lower = sums.parted(laying, place)
                self.assertIsNot(upper, lower)

    def test_of_the_very_same_list_twice(self):
        laying = [1, 1, 0]
        self.assertEqual(sums.plus(laying, laying), [0, -1, 0, 1])
        self.assertEqual(sums.heavier(laying, laying), 0)
        self.assertEqual(laying, [1, 1, 0])


class Bounds(unittest.TestCase):
    def test_longer_layings_are_not_refused(self):
        for laying in ([0] * 401, [1] * 401, [1, 0] * 210, mixed(420, 9)):
            self.assertIs(layings.is_laying(laying), True)
            for ask in ASKED_OF_ONE.values():
                ask(laying)

    def test_greater_loads_are_not_refused(self):
        for load in (10 ** 100 + 1, -(10 ** 100) - 1, 10 ** 101, -(10 ** 101)):
            layings.laid(load)


class Interface(unittest.TestCase):
    def test_names_and_arguments(self):
        wanted = {
            layings: {"is_laying": ["thing"], "load_of": ["laying"], "stones": ["laying"], "ended": ["laying"],
                      "is_neat": ["laying"], "laid": ["load"]},
            sums: {"neat": ["laying"], "turned": ["laying"], "plus": ["one", "other"],
                   "heavier": ["one", "other"], "parted": ["laying", "place"]},
        }
        for module, names in wanted.items():
            for name, arguments in names.items():
                with self.subTest(name=name):
                    signature = inspect.signature(getattr(module, name))
                    self.assertEqual(list(signature.parameters), arguments)

    def test_arguments_by_name(self):
        self.assertEqual(sums.plus(one=[1], other=[0, 1]), [-1, 0, 1])
        self.assertEqual(sums.heavier(other=[1], one=[0, 1]), 1)
        self.assertEqual(sums.parted(place=1, laying=[1, 0, -1]), ([0, -1], [1]))
        self.assertEqual(layings.laid(load=3), [-1, 0, 1])


if __name__ == "__main__":
    unittest.main()
