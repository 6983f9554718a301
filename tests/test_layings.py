import unittest

from fewstones.errors import NoLoad
from fewstones.layings import ended, is_laying, is_neat, laid, load_of, stones
from tests.samples import (all_layings, ended_told, load_told, loads, long_layings, mixed, neat_laying_told,
                           neat_told, no_layings, no_whole_numbers, some_layings)


class IsLaying(unittest.TestCase):
    def test_layings(self):
        for laying in some_layings():
            self.assertIs(is_laying(laying), True, laying)

    def test_the_empty_one(self):
        self.assertIs(is_laying([]), True)

    def test_all_else_of_any_kind(self):
        for place, thing in enumerate(no_layings()):
            with self.subTest(place=place, kind=type(thing).__name__):
                self.assertIs(is_laying(thing), False)


class LoadOf(unittest.TestCase):
    def test_document_examples(self):
        self.assertEqual(load_of([1, 0, -1]), -3)
        self.assertEqual(load_of([]), 0)

    def test_each_weight_on_either_pan(self):
        for place in range(400):
            self.assertEqual(load_of([0] * place + [1]), 2 ** place)
            self.assertEqual(load_of([0] * place + [-1]), -(2 ** place))

    def test_held_against_the_weights(self):
        for laying in some_layings():
            self.assertEqual(load_of(laying), load_told(laying), laying)

    def test_noughts_ahead_and_behind(self):
        self.assertEqual(load_of([0, 0, 1, -1, 0, 0, 0]), -4)
        self.assertEqual(load_of([0] * 400), 0)

    def test_is_a_whole_number_and_no_truth(self):
        for laying in ([], [0], [1], [-1], [1, 1], mixed(400, 5)):
            self.assertIs(type(load_of(laying)), int)


class Stones(unittest.TestCase):
    def test_counts_both_pans(self):
        self.assertEqual(stones([1, 0, -1]), 2)
        self.assertEqual(stones([-1, -1, -1]), 3)
        self.assertEqual(stones([1, 1]), 2)

    def test_none_used(self):
        self.assertEqual(stones([]), 0)
        self.assertEqual(stones([0, 0]), 0)

    def test_held_against_a_count(self):
        for laying in some_layings():
            self.assertEqual(stones(laying), len(laying) - laying.count(0), laying)

    def test_is_a_whole_number_and_no_truth(self):
        for laying in ([], [0], [1], [-1], mixed(400, 6)):
            self.assertIs(type(stones(laying)), int)


class Ended(unittest.TestCase):
    def test_leaves_out_all_noughts_behind(self):
        self.assertEqual(ended([1, 0, -1, 0, 0, 0]), [1, 0, -1])
        self.assertEqual(ended([1, 0]), [1])
        self.assertEqual(ended([-1, 0, 0]), [-1])

    def test_keeps_the_noughts_ahead_and_within(self):
        self.assertEqual(ended([0, 0, 1, 0, 0, -1]), [0, 0, 1, 0, 0, -1])
        self.assertEqual(ended([0, 0, 1, 0, 0, -1, 0]), [0, 0, 1, 0, 0, -1])

    def test_nothing_but_noughts(self):
        for length in (0, 1, 2, 400):
            self.assertEqual(ended([0] * length), [])

    def test_is_not_made_neat(self):
        self.assertEqual(ended([1, 1, 0]), [1, 1])

    def test_held_against_the_last_stone(self):
        for laying in some_layings():
            self.assertEqual(ended(laying), ended_told(laying), laying)


class IsNeat(unittest.TestCase):
    def test_document_examples(self):
        self.assertIs(is_neat([-1, 0, 1]), True)
        self.assertIs(is_neat([1, 1]), False)
        self.assertIs(is_neat([1, 0]), False)
        self.assertIs(is_neat([]), True)

    def test_not_ended(self):
        for laying in ([0], [0, 0], [0, 1, 0], [-1, 0, 0], [0] * 400):
            self.assertIs(is_neat(laying), False, laying)

    def test_neighbours(self):
        for laying in ([1, -1], [-1, 1], [-1, -1], [0, 1, 1], [1, 1, 0, 1], [1, 0, 1, -1], [0, 0, -1, -1, 0, 1]):
            self.assertIs(is_neat(laying), False, laying)

    def test_neighbours_anywhere_in_a_long_one(self):
        apart = [1, 0] * 199 + [-1]
        self.assertIs(is_neat(apart), True)
        for place in range(1, len(apart), 2):
            near = list(apart)
            near[place - 1] = 0
            self.assertIs(is_neat(near), True, place)
            near[place] = -1
            self.assertIs(is_neat(near), False, place)

    def test_held_against_the_document(self):
        for laying in list(all_layings(7)) + long_layings():
            self.assertIs(is_neat(laying), neat_told(laying), laying)


class Laid(unittest.TestCase):
    def test_nothing(self):
        self.assertEqual(laid(0), [])

    def test_small_loads(self):
        self.assertEqual([laid(load) for load in range(-4, 8)], [
            [0, 0, -1], [1, 0, -1], [0, -1], [-1], [], [1], [0, 1], [-1, 0, 1],
            [0, 0, 1], [1, 0, 1], [0, -1, 0, 1], [-1, 0, 0, 1]])

    def test_neat_and_of_that_load(self):
        for load in loads():
            told = laid(load)
            self.assertIs(type(told), list)
            self.assertTrue(all(type(thing) is int and thing in (1, 0, -1) for thing in told), load)
            self.assertEqual(load_told(told), load)
            self.assertTrue(neat_told(told), load)
            self.assertEqual(told, neat_laying_told(load))

    def test_the_load_of_a_neat_laying_is_laid_as_that_one(self):
        for laying in list(all_layings(8)) + long_layings():
            if neat_told(laying):
                self.assertEqual(laid(load_told(laying)), laying)

    def test_no_laying_of_the_same_load_uses_fewer_stones(self):
        fewest = {}
        for laying in all_layings(8):
            load = load_told(laying)
            used = len(laying) - laying.count(0)
            fewest[load] = min(used, fewest.get(load, used))
        self.assertEqual(len(fewest), 511)
        # Fewer than the short ones it may use: the neat laying may be a stone longer than they are.
        for load, used in fewest.items():
            told = laid(load)
            self.assertLessEqual(len(told) - told.count(0), used, load)

    def test_no_whole_number_is_refused(self):
        for place, thing in enumerate(no_whole_numbers()):
            with self.subTest(place=place, kind=type(thing).__name__):
                with self.assertRaises(NoLoad):
                    laid(thing)


if __name__ == "__main__":
    unittest.main()
